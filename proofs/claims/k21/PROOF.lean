import PyProof.Rows.All
import Wide.All
import OpenK.AllK
import Wide.FinOn
import Lean
import PyProof.EqAt
import PyProof.EqKinds
import PyProof.TupleCall
import PySem.Challenge.RW_patchbough_k21_put
set_option Elab.async false
set_option linter.all false
set_option maxRecDepth 100000
namespace L2
open PySem PySem.Spec PyProof.Rows

abbrev Key := Sum Int Str
def keyIs : Key → Value → Bool
  | .inl k, v => Value.isInt k v
  | .inr x, v => Value.isStrOf x v
def keyH (w : World) : Key → Int
  | .inl k => hashInt k
  | .inr x => hashStr w x
theorem keyIs_shape : ∀ {k : Key} {v : Value}, keyIs k v = true → (∃ i t, k = Sum.inl i ∧ v = Value.int i t) ∨ (∃ x t, k = Sum.inr x ∧ v = Value.str x t)
  | .inl i, v, h => by
    obtain ⟨t, e⟩ := Value.isInt_shape (k := i) (v := v) h
    exact .inl ⟨i, t, rfl, e⟩
  | .inr x, v, h => by
    obtain ⟨t, e⟩ := Value.isStrOf_shape (x := x) (v := v) h
    exact .inr ⟨x, t, rfl, e⟩
theorem keyIs_int (i : Int) (t : Tok) : keyIs (.inl i) (.int i t) = true := by simp [keyIs, Value.isInt]
theorem keyIs_str (x : Str) (t : Tok) : keyIs (.inr x) (.str x t) = true := by simp [keyIs, Value.isStrOf]
theorem key_ll (a b : Int) : decide ((Sum.inl a : Key) = Sum.inl b) = (a == b) := by
  by_cases e : a = b
  · subst e; simp
  · have h : ¬ (Sum.inl a : Key) = Sum.inl b := fun q => e (Sum.inl.inj q)
    rw [decide_eq_false h]
    exact (beq_eq_false_iff_ne.mpr e).symm
theorem key_rr (a b : Str) : decide ((Sum.inr a : Key) = Sum.inr b) = decide (a = b) := by
  by_cases e : a = b
  · subst e; simp
  · have h : ¬ (Sum.inr a : Key) = Sum.inr b := fun q => e (Sum.inr.inj q)
    rw [decide_eq_false h, decide_eq_false e]
theorem key_lr (a : Int) (b : Str) : decide ((Sum.inl a : Key) = Sum.inr b) = false := decide_eq_false (fun q => nomatch q)
theorem key_rl (a : Str) (b : Int) : decide ((Sum.inr a : Key) = Sum.inl b) = false := decide_eq_false (fun q => nomatch q)

def mixKind (prog : Program) (w : World) : PySem.KeyKind prog w Key where
  is := keyIs
  hash := keyH w
  inj := fun v a b ha hb => by
    rcases keyIs_shape ha with ⟨i, t, rfl, rfl⟩ | ⟨x, t, rfl, rfl⟩
    · rcases keyIs_shape hb with ⟨j, u, rfl, e⟩ | ⟨y, u, rfl, e⟩
      · injection e with e1 _; rw [e1]
      · exact nomatch e
    · rcases keyIs_shape hb with ⟨j, u, rfl, e⟩ | ⟨y, u, rfl, e⟩
      · exact nomatch e
      · injection e with e1 _; rw [e1]
  byValue := fun k v h => by
    rcases keyIs_shape h with ⟨i, t, rfl, rfl⟩ | ⟨x, t, rfl, rfl⟩ <;> rfl
  pyHash := fun hv h => by
    rcases keyIs_shape hv with ⟨i, t, rfl, rfl⟩ | ⟨x, t, rfl, rfl⟩
    · exact wpAny_pyHash_int h
    · exact wpAny_pyHash_str h
  eqBool := fun hu hv h => by
    rcases keyIs_shape hu with ⟨i, t, rfl, rfl⟩ | ⟨x, t, rfl, rfl⟩
    · rcases keyIs_shape hv with ⟨j, u, rfl, rfl⟩ | ⟨y, u, rfl, rfl⟩
      · rw [key_ll] at h; exact wpAny_eqBool_int h
      · rw [key_lr] at h; exact SeqAt.EqAt.int_str i t y u _ _ _ _ h
    · rcases keyIs_shape hv with ⟨j, u, rfl, rfl⟩ | ⟨y, u, rfl, rfl⟩
      · rw [key_rl] at h; exact SeqAt.EqAt.str_int x t j u _ _ _ _ h
      · rw [key_rr] at h; exact wpAny_eqBool_str h
  «strs» := fun k x t v h => by
    rcases keyIs_shape h with ⟨i, u, rfl, e⟩ | ⟨y, u, rfl, e⟩
    · exact nomatch e
    · injection e with e1 _
      subst e1
      cases v <;> rfl

theorem mixKind_int (prog : Program) (w : World) (i : Int) (t : Tok) : (mixKind prog w).is (.inl i) (.int i t) = true := keyIs_int i t
theorem mixKind_str (prog : Program) (w : World) (x : Str) (t : Tok) : (mixKind prog w).is (.inr x) (.str x t) = true := keyIs_str x t
end L2

namespace L2
open PySem PySem.Spec PyProof.Rows

inductive V where
  | non | bl (b : Bool) | int (i : Int) | str (x : Str) | byt (b : Array UInt8) | flt (b : UInt64) | ref (a : Addr) | ty (n : String)
  deriving DecidableEq

def RelV : V → Value → Prop
  | .non, u => u = Value.none
  | .bl b, u => u = Value.bool b
  | .int i, u => ∃ t, u = Value.int i t
  | .str x, u => ∃ t, u = Value.str x t
  | .byt b, u => ∃ t, u = Value.bytes b t
  | .flt b, u => ∃ t, u = Value.float b t
  | .ref a, u => u = Value.ref a
  | .ty n, u => u = Value.type n

abbrev Vals : List V → List Value → Prop := Paired RelV
theorem Vals.length {xs : List V} {us : List Value} (r : Vals xs us) : xs.length = us.length := Paired.length r
theorem Vals.inv {x : V} {xs : List V} {us : List Value} (r : Vals (x :: xs) us) : ∃ u ur, us = u :: ur ∧ RelV x u ∧ Vals xs ur := by
  cases r with
  | cons a b => exact ⟨_, _, rfl, a, b⟩
theorem Vals.get {xs : List V} {us : List Value} {i : Nat} {x : V} (r : Vals xs us) (e : xs[i]? = some x) : ∃ u, us[i]? = some u ∧ RelV x u := by
  induction r generalizing i with
  | nil => rw [List.getElem?_nil] at e; exact nomatch e
  | cons a b ih =>
    cases i with
    | zero => exact ⟨_, rfl, Option.some.inj e ▸ a⟩
    | succ j => exact ih (i := j) e
theorem Vals.set {x : V} {u : Value} (r : RelV x u) : ∀ {xs : List V} {us : List Value} (i : Nat), Vals xs us → Vals (xs.set i x) (us.set i u)
  | _, _, _, .nil => .nil
  | _, _, 0, .cons _ t => .cons r t
  | _, _, i + 1, .cons q t => .cons q (Vals.set r i t)
theorem Vals.append {xs ys : List V} {us ws : List Value} (r : Vals xs us) (s : Vals ys ws) : Vals (xs ++ ys) (us ++ ws) := by
  induction r with
  | nil => exact s
  | cons a _ ih => exact .cons a ih
theorem Vals.take : ∀ {xs : List V} {us : List Value} (n : Nat), Vals xs us → Vals (xs.take n) (us.take n)
  | _, _, 0, _ => .nil
  | _, _, _ + 1, .nil => .nil
  | _, _, n + 1, .cons r t => .cons r (Vals.take n t)
theorem Vals.drop : ∀ {xs : List V} {us : List Value} (n : Nat), Vals xs us → Vals (xs.drop n) (us.drop n)
  | _, _, 0, r => r
  | _, _, _ + 1, .nil => .nil
  | _, _, n + 1, .cons _ t => Vals.drop n t
def RelO : Option V → Option Value → Prop
  | some v, some u => RelV v u
  | none, none => True
  | _, _ => False
def KV {κ : Type} : List (κ × V) → List (κ × Value) → Prop := Paired fun (p : κ × V) (q : κ × Value) => p.1 = q.1 ∧ RelV p.2 q.2

def kV : Key → V
  | .inl i => .int i
  | .inr x => .str x

inductive HO where
  | lst (xs : List V)
  | tup (xs : List V)
  | dK (kvs : List (Key × V)) | dT (kvs : List (List Key × V))
  | set (S : Int → Bool) (n : Nat)
  | ins (C dx : Addr) (fs : List (Str × V))
  | own (x : Addr)
  | xd (fs : List (Str × V))
  | met (f x : Addr)
  | rng (lo hi : Int)
  | frz (o : Obj) (u : HO)
  | tbl (ps : Array Value)
  | ext (φ : Heap → Prop)

abbrev Hp := Addr → Option HO
def upd (H : Hp) (a : Addr) (o : HO) : Hp := fun b => if b = a then some o else H b
theorem upd_same {H : Hp} {a : Addr} {o : HO} : upd H a o a = some o := by unfold upd; rw [if_pos rfl]
theorem upd_ne {H : Hp} {a b : Addr} {o : HO} (h : b ≠ a) : upd H a o b = H b := by unfold upd; rw [if_neg h]
theorem upd_upd {H : Hp} {a : Addr} {o u : HO} : upd (upd H a o) a u = upd H a u := by
  funext b; unfold upd; split <;> rfl
theorem ne_of {H : Hp} {a b : Addr} {o u : HO} (h : H a = some o) (h' : H b = some u) (d : o ≠ u) : a ≠ b := by
  intro e; subst e; rw [h] at h'; exact d (Option.some.inj h')
theorem ne_of_none {H : Hp} {a b : Addr} {o : HO} (h : H a = some o) (h' : H b = none) : a ≠ b := by
  intro e; subst e; rw [h] at h'; cases h'

section
variable (P : Program) (w : World)
def ObjOk (H : Hp) (h : Heap) (a : Addr) : HO → Prop
  | .lst xs => xs.length ≤ sizeLine ∧ ∃ (its : List Value) (n : Nat), Vals xs its ∧ h.get? a = some { cls := .type "list", data := .seq its.toArray n }
  | .tup xs => xs.length ≤ sizeLine ∧ ∃ its : List Value, Vals xs its ∧ IsTup h a its.toArray
  | .dK kvs => kvs.length ≤ sizeLine ∧ (a == sysModules) = false ∧ ∃ vs, KV kvs vs ∧ h.DictOf (mixKind P w) a vs
  | .dT kvs => kvs.length ≤ sizeLine ∧ (a == sysModules) = false ∧ ∃ xs : List (List Key × Addr × Value),
      Paired (fun (p : List Key × V) (q : List Key × Addr × Value) => p.1 = q.1 ∧ H q.2.1 = some (.tup (p.1.map kV)) ∧ RelV p.2 q.2.2) kvs xs ∧
      ∃ o es ep, h.get? a = some o ∧ o.ExactDict ∧ o.data = .dict es ep ∧ es.toList = xs.map (entryOfKey (tupleKind (mixKind P w))) ∧ (xs.map (·.1)).Nodup
  | .set S n => h.SetOf (intKind P w) a S n
  | .ins C dx fs => H dx = some (.own a) ∧ fs.length ≤ 1000 ∧ dx ≠ a ∧ h.get? a = some (PySem.W.instObj C dx) ∧
      ∃ mA, h.Ns1 dx mA ∧ (∀ f, RelO (fs.lookup f) (mA f)) ∧ PySem.Within mA (fs.map (·.1))
  | .own _ => ∃ o, h.get? a = some o
  | .xd fs => ∃ mA, h.Ns1 a mA ∧ ∀ f, RelO (fs.lookup f) (mA f)
  | .rng lo hi => ∃ t u v, h.get? a = some { cls := .type "range", data := .fields #[.int lo t, .int hi u, .int 1 v] }
  | .frz o u => h.get? a = some o ∧ ObjOk H h a u
  | .tbl ps => h.get? a = some { cls := .none, data := .fields ps }
  | .met f x => h.get? a = some (PySem.W.methodObj (.ref f) (.ref x))
  | .ext φ => φ h ∧ (∃ o, h.get? a = some o) ∧ ∀ h1 h2 : Heap, φ h1 → (∀ o, h1.get? a = some o → h2.get? a = some o) → φ h2
def HOk (H : Hp) (h : Heap) : Prop := ∀ a o, H a = some o → ObjOk P w H h a o
end

section
variable {P : Program} {w : World} {H H' : Hp} {h h' : Heap} {a : Addr} {o : HO}
theorem ObjOk.lt (x : ObjOk P w H h a o) : a < h.objs.size := by
  cases o with
  | lst xs => obtain ⟨_, _, _, _, e⟩ := x; exact Heap.lt_size e
  | tup xs => obtain ⟨_, _, _, p⟩ := x; exact p.lt
  | dK kvs => obtain ⟨_, _, _, _, o, _, _, e, _⟩ := x; exact Heap.lt_size e
  | dT kvs => obtain ⟨_, _, _, _, o, _, _, e, _⟩ := x; exact Heap.lt_size e
  | set S n => obtain ⟨o, _, _, _, e, _⟩ := x; exact Heap.lt_size e
  | ins C dx fs => obtain ⟨_, _, _, e, _⟩ := x; exact Heap.lt_size e
  | own y => obtain ⟨_, e⟩ := x; exact Heap.lt_size e
  | xd fs => obtain ⟨_, ⟨_, _, _, e, _⟩, _⟩ := x; exact Heap.lt_size e
  | rng lo hi => obtain ⟨_, _, _, e⟩ := x; exact Heap.lt_size e
  | frz ob u => obtain ⟨e, _⟩ := x; exact Heap.lt_size e
  | tbl ps => exact Heap.lt_size (show h.get? a = some _ from x)
  | met f y => exact Heap.lt_size (show h.get? a = some _ from x)
  | ext φ => obtain ⟨_, ⟨_, e⟩, _⟩ := x; exact Heap.lt_size e
theorem Paired.mapP {α β : Type} {F G : α → β → Prop} {l₁ : List α} {l₂ : List β} (r : Paired F l₁ l₂) (f : ∀ a b, F a b → G a b) : Paired G l₁ l₂ := by
  induction r with
  | nil => exact .nil
  | cons a _ ih => exact .cons (f _ _ a) ih
theorem ObjOk.stay (x : ObjOk P w H h a o) (k : ∀ b u, (b = a ∨ H b = some (.own a)) → h.get? b = some u → h'.get? b = some u)
    (ho : ∀ b, H b = some (.own a) → H' b = some (.own a)) (ht : ∀ b xs, H b = some (.tup xs) → H' b = some (.tup xs)) : ObjOk P w H' h' a o := by
  induction o with
  | lst xs => obtain ⟨z, its, n, r, e⟩ := x; exact ⟨z, its, n, r, k _ _ (.inl rfl) e⟩
  | tup xs => obtain ⟨z, its, r, ob, e, c⟩ := x; exact ⟨z, its, r, ob, k _ _ (.inl rfl) e, c⟩
  | dK kvs => obtain ⟨z, y, vs, r, ob, es, ep, e, c⟩ := x; exact ⟨z, y, vs, r, ob, es, ep, k _ _ (.inl rfl) e, c⟩
  | dT kvs =>
    obtain ⟨z, y, xs, r, ob, es, ep, e, c⟩ := x
    exact ⟨z, y, xs, Paired.mapP r fun p q z => ⟨z.1, ht _ _ z.2.1, z.2.2⟩, ob, es, ep, k _ _ (.inl rfl) e, c⟩
  | set S n => obtain ⟨ob, es, ep, t, e, c⟩ := x; exact ⟨ob, es, ep, t, k _ _ (.inl rfl) e, c⟩
  | ins C dx fs =>
    obtain ⟨d, z, ne, e, mA, ⟨od, es, ep, e2, c⟩, r⟩ := x
    exact ⟨ho _ d, z, ne, k _ _ (.inl rfl) e, mA, ⟨od, es, ep, k _ _ (.inr d) e2, c⟩, r⟩
  | own y => obtain ⟨ob, e⟩ := x; exact ⟨ob, k _ _ (.inl rfl) e⟩
  | xd fs => obtain ⟨mA, ⟨od, es, ep, e, c⟩, r⟩ := x; exact ⟨mA, ⟨od, es, ep, k _ _ (.inl rfl) e, c⟩, r⟩
  | rng lo hi => obtain ⟨t, u, v, e⟩ := x; exact ⟨t, u, v, k _ _ (.inl rfl) e⟩
  | frz ob u ih => obtain ⟨e, q⟩ := x; exact ⟨k _ _ (.inl rfl) e, ih q⟩
  | tbl ps =>
    have e : h.get? a = some { cls := .none, data := .fields ps } := x
    show h'.get? a = some { cls := .none, data := .fields ps }
    exact k a _ (.inl rfl) e
  | met f y =>
    have e : h.get? a = some (PySem.W.methodObj (.ref f) (.ref y)) := x
    show h'.get? a = some (PySem.W.methodObj (.ref f) (.ref y))
    exact k a _ (.inl rfl) e
  | ext φ => obtain ⟨p, ⟨o, e⟩, st⟩ := x; exact ⟨st _ _ p fun o q => k _ _ (.inl rfl) q, ⟨o, k _ _ (.inl rfl) e⟩, st⟩
theorem HOk.lt (x : HOk P w H h) (e : H a = some o) : a < h.objs.size := (x a o e).lt
theorem HOk.fresh (x : HOk P w H h) (e : h.objs.size ≤ a) : H a = none := by
  cases q : H a with
  | none => rfl
  | some u => exact absurd (Nat.lt_of_lt_of_le (x.lt q) e) (Nat.lt_irrefl _)
theorem HOk.kept (x : HOk P w H h) (k : ∀ b u, h.get? b = some u → h'.get? b = some u) : HOk P w H h' := fun a o e =>
  (x a o e).stay (fun b u _ q => k b u q) (fun _ q => q) fun _ _ q => q
theorem HOk.laid (x : HOk P w H h) (k : ∀ b u, h.get? b = some u → h'.get? b = some u) (hp : h.objs.size ≤ a) (new : ObjOk P w (upd H a o) h' a o) : HOk P w (upd H a o) h' := fun b u e => by
  have hn := x.fresh hp
  by_cases hb : b = a
  · subst hb; rw [upd_same] at e; cases e; exact new
  · rw [upd_ne hb] at e
    exact (x b u e).stay (fun c v _ q => k c v q) (fun c q => by rw [upd_ne (ne_of_none q hn)]; exact q) fun c xs q => by rw [upd_ne (ne_of_none q hn)]; exact q
end

def Rd (H : Hp) (a : Addr) (u : HO) : Prop := H a = some u ∨ ∃ o, H a = some (.frz o u)
theorem Rd.ok {P : Program} {w : World} {H : Hp} {h : Heap} {a : Addr} {u : HO} (r : Rd H a u) (x : HOk P w H h) : ObjOk P w H h a u := by
  rcases r with r | ⟨o, r⟩
  · exact x a u r
  · obtain ⟨_, q⟩ := x a _ r
    exact q
def Mut : Option HO → Prop
  | some (.lst _) => True
  | some (.dK _) => True
  | some (.dT _) => True
  | some (.set _ _) => True
  | some (.ins _ _ _) => True
  | some (.ext _) => True
  | _ => False
section
variable {P : Program} {w : World} {H : Hp} {h h' : Heap} {x e : Addr} {o' : HO}
theorem HOk.write (ok : HOk P w H h) (mu : Mut (H x)) (he : e = x ∨ H e = some (.own x)) (k : ∀ b u, b ≠ e → h.get? b = some u → h'.get? b = some u) (heo : ∃ u, h'.get? e = some u)
    (new : ObjOk P w (upd H x o') h' x o') : HOk P w (upd H x o') h' := fun b u q => by
  have nown : ∀ c y, H c = some (.own y) → c ≠ x := fun c y r z => by subst z; rw [r] at mu; exact mu
  have ntup : ∀ c xs, H c = some (.tup xs) → c ≠ x := fun c xs r z => by subst z; rw [r] at mu; exact mu
  by_cases hb : b = x
  · subst hb; rw [upd_same] at q; cases q; exact new
  · rw [upd_ne hb] at q
    by_cases hbe : b = e
    · have q' : H b = some (.own x) := by
        rcases he with z | z
        · exact absurd (hbe.trans z) hb
        · rw [hbe]; exact z
      rw [q] at q'; cases q'
      obtain ⟨v, hv⟩ := heo
      exact ⟨v, by rw [hbe]; exact hv⟩
    · refine (ok b u q).stay (fun c v hc r => k c v ?_ r) (fun c r => by rw [upd_ne (nown c b r)]; exact r) fun c xs r => by rw [upd_ne (ntup c xs r)]; exact r
      rcases hc with rfl | hc
      · exact hbe
      · rintro rfl
        rcases he with z | z
        · exact nown c b hc z
        · rw [hc] at z; cases z; exact hb rfl
end

structure Un (fs ex : List Addr) (H H' : Hp) (h h' : Heap) : Prop where
  keep : ∀ b o, h.get? b = some o → H b = none → b ∉ fs → b ∉ ex → h'.get? b = some o
  slot : ∀ b o, h.get? b = some o → H b = none → b ∈ fs → b ∉ ex → ∃ sl, h'.get? b = some { o with slots := sl }
  free : ∀ b o, h.get? b = some o → H b = none → b ∉ ex → H' b = none
  there : ∀ b o, h.get? b = some o → b ∉ ex → ∃ o', h'.get? b = some o'
  tups : ∀ b xs, H b = some (.tup xs) → H' b = some (.tup xs)
  frzs : ∀ b o u, H b = some (.frz o u) → H' b = some (.frz o u)
  tbls : ∀ b ps, H b = some (.tbl ps) → ∃ more, H' b = some (.tbl (ps ++ more))
section
variable {fs fs' ex ex' : List Addr} {H H1 H2 : Hp} {h h1 h2 h' : Heap} {a x e : Addr} {o : HO}
theorem Un.any (u : Un fs ex H H1 h h1) {b : Addr} {ob : Obj} (q : h.get? b = some ob) (n : H b = none) (hx : b ∉ ex) : ∃ sl, h1.get? b = some { ob with slots := sl } := by
  by_cases hb : b ∈ fs
  · exact u.slot b ob q n hb hx
  · exact ⟨ob.slots, u.keep b ob q n hb hx⟩
theorem Un.kept (k : ∀ b u, h.get? b = some u → h'.get? b = some u) : Un fs ex H H h h' :=
  ⟨fun b ob q _ _ _ => k b ob q, fun b ob q _ _ _ => ⟨ob.slots, k b ob q⟩, fun _ _ _ n _ => n, fun b ob q _ => ⟨ob, k b ob q⟩, fun _ _ q => q, fun _ _ _ q => q, fun _ ps q => ⟨#[], by rw [q]; simp⟩⟩
theorem Un.refl : Un fs ex H H h h := Un.kept fun _ _ q => q
theorem Un.laid (k : ∀ b u, h.get? b = some u → h'.get? b = some u) (hp : h.objs.size ≤ a) (hn : H a = none) : Un fs ex H (upd H a o) h h' where
  keep := fun b u q _ _ _ => k b u q
  slot := fun b u q _ _ _ => ⟨u.slots, k b u q⟩
  free := fun b u q n _ => by rw [upd_ne (Nat.ne_of_lt (Nat.lt_of_lt_of_le (Heap.lt_size q) hp))]; exact n
  there := fun b u q _ => ⟨u, k b u q⟩
  tups := fun b xs q => by rw [upd_ne (ne_of_none q hn)]; exact q
  frzs := fun b u xs q => by rw [upd_ne (ne_of_none q hn)]; exact q
  tbls := fun b ps q => ⟨#[], by rw [upd_ne (ne_of_none q hn), q]; simp⟩
theorem Un.write (mu : Mut (H x)) (he : e = x ∨ H e = some (.own x)) (k : ∀ b u, b ≠ e → h.get? b = some u → h'.get? b = some u) (heo : ∃ u, h'.get? e = some u) : Un fs ex H (upd H x o) h h' := by
  have hx : ∀ b, H b = none → b ≠ x := fun b n z => by subst z; rw [n] at mu; exact mu
  have hb : ∀ b, H b = none → b ≠ e := fun b n z => by
    subst z
    rcases he with r | r
    · exact hx b n r
    · rw [n] at r; cases r
  have hm : ∀ b u, H b = some u → ¬ Mut (some u) → b ≠ x := fun b u q nm z => by subst z; rw [q] at mu; exact nm mu
  refine ⟨fun b u q n _ _ => k b u (hb b n) q, fun b u q n _ _ => ⟨u.slots, k b u (hb b n) q⟩, fun b u q n _ => by rw [upd_ne (hx b n)]; exact n, fun b u q _ => ?_,
    fun b xs q => by rw [upd_ne (hm b _ q fun z => z)]; exact q, fun b u xs q => by rw [upd_ne (hm b _ q fun z => z)]; exact q, fun b ps q => ⟨#[], by rw [upd_ne (hm b _ q fun z => z), q]; simp⟩⟩
  by_cases hbe : b = e
  · subst hbe; exact heo
  · exact ⟨u, k b u hbe q⟩
end

def trk (h : Heap) (H : Hp) : List Addr := (List.range h.objs.size).filter fun a => (H a).isSome
def hidT (h : Heap) (H : Hp) : Heap := PySem.W.hideAll h (trk h H)
theorem hidT_size (h : Heap) (H : Hp) : (hidT h H).objs.size = h.objs.size := PySem.W.hideAll_size _ _
theorem hidT_get {h : Heap} {H : Hp} {b : Addr} {o : Obj} (e : h.get? b = some o) (n : H b = none) : (hidT h H).get? b = some o :=
  PySem.W.hideAll_get _ e fun hm => by
    have q : (H b).isSome = true := (List.mem_filter.mp hm).2
    rw [n] at q; simp at q
theorem of_hidT {h : Heap} {H : Hp} {b : Addr} {o : Obj} (e : (hidT h H).get? b = some o) : h.get? b = some o ∧ H b = none := by
  have e' : h.get? b = some o := PySem.W.of_hideAll (trk h H) e
  refine ⟨e', ?_⟩
  cases q : H b with
  | none => rfl
  | some x =>
    have hm : b ∈ trk h H := List.mem_filter.mpr ⟨List.mem_range.mpr (Heap.lt_size e'), by simp [q]⟩
    have z : (hidT h H).get? b = none := PySem.W.hideAll_none (trk h H) hm
    rw [z] at e; cases e

def allNews (g h : Heap) (L : Addr) : List (Addr × Obj) := (List.range h.objs.size).filterMap fun a => if a = L ∨ (g.get? a).isSome = true then none else (h.get? a).map fun o => (a, o)
def rest (g h : Heap) (L d : Addr) : List (Addr × Obj) := (allNews g h L).filter fun p => decide (p.1 ≠ d)
end L2

namespace L2
open PySem PySem.Spec PyProof.Rows

structure Mod (K : PySem.W.Frag) (mg : Str → Option Value) (base : Heap) : Prop where
  kin : K.In base
  glob : base.Ns mainGlobals mg
  blt : ∃ mb, base.Ns builtinsNs mb ∧ ∀ x : Str, x ≠ "__name__" → mb x = bootBuiltins x
  nolimit : base.NoLimit

structure Cx where
  prog : Program
  w : World
  K : PySem.W.Frag
  mg : Str → Option Value
  base : Heap
  A : Around
  N : List Str
  s₀ : Shared
  H₀ : Hp
  env : Env
  outer : List Env
  stack : List Env
  ex : List Addr
  fn : Str → Bool
  calm : Bool
  pn : List (Addr × Obj)
  xe : Value → Shared → Prop
def frs (l : List Env) : List Addr := l.filterMap (·.frame)
abbrev Cx.fs (X : Cx) : List Addr := frs X.outer

def Vis (sc : Scope) (x : Str) : Prop := sc.names.lookup x = some .local ∨ sc.names.lookup x = some .cell ∨ sc.names.lookup x = some .free
def Loc (sc : Scope) (x : Str) : Prop := sc.names.lookup x = some .local ∨ sc.names.lookup x = some .cell
def Look (env : Env) (h : Heap) (m : Str → Option Value) (x : Str) (u : Value) : Prop :=
  (env.kindOf x = some .local ∧ m x = some u) ∨ ((env.kindOf x = some .cell ∨ env.kindOf x = some .free) ∧ ∃ c, env.cells.lookup x = some c ∧ h.IsCell c (some u))

structure Cx.Ok (X : Cx) : Prop where
  mod : Mod X.K X.mg X.base
  kind : X.env.scope.kind = .function
  glob : X.env.globals = mainGlobals
  blt : X.env.builtins = builtinsNs
  above : X.s₀.heap.objs.size ≤ X.env.locals
  inj : ∀ x y c, X.env.cells.lookup x = some c → X.env.cells.lookup y = some c → x = y
  has : ∀ x, (X.env.kindOf x = some .cell ∨ X.env.kindOf x = some .free) → ∃ c, X.env.cells.lookup x = some c
  cab : ∀ x c, X.fn x = true → X.env.cells.lookup x = some c → X.s₀.heap.objs.size ≤ c
  hd : X.calm = true → X.A.handled = none
  frames : X.A.frames = some X.stack
  stk : X.stack = X.outer ∨ (X.stack = X.env :: X.outer ∧ X.env.frame = some X.env.locals)
  exf : ∀ b ∈ X.ex, b ≠ X.env.locals ∧ ∀ x c, X.env.cells.lookup x = some c → c ≠ b
  bs : ∀ b o, X.base.get? b = some o → X.s₀.heap.get? b = some o ∧ X.H₀ b = none
  bsz : X.base.objs.size ≤ X.s₀.heap.objs.size
  noex : ∀ b o, X.base.get? b = some o → b ∉ X.ex
  exfs : ∀ b ∈ X.ex, b ∉ X.fs
  funs : X.s₀.heap.FunFrames X.base X.outer
  frf : ∀ b ∈ X.fs, X.H₀ b = none

structure Inv (X : Cx) (pins : List (Addr × Obj)) (σ : List (Option V)) (H : Hp) (s : Shared) : Prop where
  ok : X.Ok
  os : s.os = X.s₀.os
  bare : AllBare s.gens
  base : Un X.fs X.ex X.H₀ H X.s₀.heap s.heap
  loc : ∃ m, s.heap.Ns X.env.locals m ∧ ∀ (i : Nat) (x : Str) (v : V), X.N[i]? = some x → σ[i]? = some (some v) → Vis X.env.scope x → ∃ u, RelV v u ∧ Look X.env s.heap m x u
  cell : ∀ x c, X.env.cells.lookup x = some c → ∃ v, s.heap.IsCell c v
  free : H X.env.locals = none
  freeC : ∀ x c, X.env.cells.lookup x = some c → H c = none
  pin : ∀ p ∈ X.pn ++ pins, s.heap.get? p.1 = some p.2 ∧ H p.1 = none ∧ p.1 ≠ X.env.locals ∧ p.1 ∉ X.fs ∧ ∀ v, p.2.data ≠ .cell v
  hok : HOk X.prog X.w H s.heap
  len : σ.length = X.N.length

section
variable {X : Cx} {pins : List (Addr × Obj)} {σ : List (Option V)} {H H' : Hp} {s : Shared} {h' : Heap}

theorem Cx.Ok.nofr (ok : X.Ok) {b : Addr} {o : Obj} (e : X.base.get? b = some o) : b ∉ X.fs := fun hb => by
  have := (ok.funs.mem hb).1
  rw [e] at this; cases this
theorem Inv.bs (I : Inv X pins σ H s) : ∀ b o, X.base.get? b = some o → s.heap.get? b = some o ∧ H b = none := fun b o e =>
  ⟨I.base.keep b o (I.ok.bs b o e).1 (I.ok.bs b o e).2 (I.ok.nofr e) (I.ok.noex b o e), I.base.free b o (I.ok.bs b o e).1 (I.ok.bs b o e).2 (I.ok.noex b o e)⟩
theorem Inv.bk (I : Inv X pins σ H s) : ∀ b o, X.base.get? b = some o → s.heap.get? b = some o := fun b o e => (I.bs b o e).1
theorem Inv.mod (I : Inv X pins σ H s) : Mod X.K X.mg X.base := I.ok.mod
theorem Inv.kIn (I : Inv X pins σ H s) : X.K.In s.heap := I.ok.mod.kin.keeps I.bk
theorem Inv.lt (I : Inv X pins σ H s) : X.env.locals < s.heap.objs.size := let ⟨_, hn, _⟩ := I.loc; hn.lt
theorem Inv.sz (I : Inv X pins σ H s) : X.s₀.heap.objs.size ≤ s.heap.objs.size := Nat.le_trans I.ok.above (Nat.le_of_lt I.lt)
theorem Inv.nofs (I : Inv X pins σ H s) {a : Addr} (h : s.heap.objs.size ≤ a) : a ∉ X.fs := fun hb => by
  obtain ⟨_, o, ho, _⟩ := I.ok.funs.mem hb
  exact absurd (Nat.lt_of_lt_of_le (Heap.lt_size ho) (Nat.le_trans I.sz h)) (Nat.lt_irrefl _)
theorem Inv.cne (I : Inv X pins σ H s) : ∀ x c, X.env.cells.lookup x = some c → c ≠ X.env.locals := fun x c e z => by
  obtain ⟨v, o, ho, hd⟩ := I.cell x c e
  obtain ⟨m, ⟨o', es, ep, ho', hd', _⟩, _⟩ := I.loc
  rw [z, ho'] at ho; cases ho; rw [hd'] at hd; cases hd
theorem Inv.funs (I : Inv X pins σ H s) : s.heap.FunFrames X.base X.outer := by
  have all : ∀ (l : List Env), (∀ b ∈ frs l, b ∈ X.fs) → X.s₀.heap.FunFrames X.base l → s.heap.FunFrames X.base l := by
    intro l
    induction l with
    | nil => intro _ _; trivial
    | cons env r ih =>
      intro hs hl
      obtain ⟨hk, ⟨L, o, hf, hn, ho, hd⟩, hr⟩ := hl
      have hL : L ∈ X.fs := hs L (by unfold frs; rw [List.filterMap_cons, hf]; exact List.mem_cons_self)
      obtain ⟨sl, e⟩ := I.base.slot L o ho (I.ok.frf L hL) hL fun z => I.ok.exfs L z hL
      exact ⟨hk, ⟨L, _, hf, hn, e, hd⟩, ih (fun b hb => hs b (by unfold frs; rw [List.filterMap_cons, hf]; exact List.mem_cons_of_mem _ hb)) hr⟩
  exact all X.outer (fun _ hb => hb) I.ok.funs

theorem Inv.stack (I : Inv X pins σ H s) : s.heap.FunFrames X.base X.stack := by
  rcases I.ok.stk with e | ⟨e, hf⟩
  · rw [e]; exact I.funs
  · rw [e]
    obtain ⟨m, hn, _⟩ := I.loc
    refine .cons (by rw [I.ok.kind]; decide) hf hn ?_ I.funs
    exact Heap.get?_none_of_le (Nat.le_trans I.ok.bsz I.ok.above)
theorem Inv.stkSub (I : Inv X pins σ H s) : ∀ b ∈ frs X.stack, b ∈ X.env.locals :: X.fs := fun b hb => by
  rcases I.ok.stk with e | ⟨e, hf⟩
  · rw [e] at hb; exact List.mem_cons_of_mem _ hb
  · rw [e] at hb
    unfold frs at hb
    rw [List.filterMap_cons, hf] at hb
    exact hb
theorem Inv.stkFree (I : Inv X pins σ H s) : ∀ b ∈ frs X.stack, H b = none := fun b hb => by
  rcases List.mem_cons.mp (I.stkSub b hb) with e | hb
  · rw [e]; exact I.free
  · obtain ⟨_, o, ho, _⟩ := I.ok.funs.mem hb
    exact I.base.free b o ho (I.ok.frf b hb) fun z => I.ok.exfs b z hb

theorem Inv.step {g' : Array GenState} {t' : Nat} {d' : Drawn} {ch : List Addr} (I : Inv X pins σ H s)
    (hch : ∀ b ∈ ch, (b ∈ X.ex ∨ X.s₀.heap.objs.size ≤ b) ∧ b ≠ X.env.locals ∧ (∀ x c, X.env.cells.lookup x = some c → c ≠ b) ∧ ∀ p ∈ X.pn ++ pins, p.1 ≠ b)
    (keep : ∀ b o, b ≠ X.env.locals → b ∉ X.fs → b ∉ ch → s.heap.get? b = some o → H b = none → h'.get? b = some o)
    (slot : ∀ b o, b ≠ X.env.locals → b ∈ X.fs → b ∉ ch → s.heap.get? b = some o → H b = none → ∃ sl, h'.get? b = some { o with slots := sl }) (free : ∀ b o, b ∉ ch → s.heap.get? b = some o → H b = none → H' b = none)
    (there : ∀ b o, b ∉ ch → s.heap.get? b = some o → ∃ o', h'.get? b = some o')
    (tups : ∀ b xs, H b = some (.tup xs) → H' b = some (.tup xs)) (frzs : ∀ b o u, H b = some (.frz o u) → H' b = some (.frz o u)) (tbls : ∀ b ps, H b = some (.tbl ps) → ∃ more, H' b = some (.tbl (ps ++ more)))
    (ns : ∀ m, s.heap.Ns X.env.locals m → h'.Ns X.env.locals m) (hok : HOk X.prog X.w H' h') (hg : AllBare g') :
    Inv X pins σ H' { s with heap := h', gens := g', drawn := d', toks := t' } := by
  have neL : ∀ b o, X.s₀.heap.get? b = some o → b ≠ X.env.locals := fun b o e => Nat.ne_of_lt (Nat.lt_of_lt_of_le (Heap.lt_size e) I.ok.above)
  have neC : ∀ b o, X.s₀.heap.get? b = some o → b ∉ X.ex → b ∉ ch := fun b o e hx hb => by
    rcases (hch b hb).1 with z | z
    · exact hx z
    · exact absurd (Nat.lt_of_lt_of_le (Heap.lt_size e) z) (Nat.lt_irrefl _)
  have cellK : ∀ x c, X.env.cells.lookup x = some c → ∀ v, s.heap.IsCell c v → h'.IsCell c v := fun x c e v ⟨o, ho, hd⟩ => by
    have nch : c ∉ ch := fun z => (hch c z).2.2.1 x c e rfl
    by_cases hc : c ∈ X.fs
    · obtain ⟨sl, q⟩ := slot c o (I.cne x c e) hc nch ho (I.freeC x c e)
      exact ⟨_, q, hd⟩
    · exact ⟨o, keep c o (I.cne x c e) hc nch ho (I.freeC x c e), hd⟩
  refine ⟨I.ok, I.os, hg, ⟨fun b o e n hb hx => ?_, fun b o e n hb hx => ?_, fun b o e n hx => ?_, fun b o e hx => ?_, fun b xs e => tups b xs (I.base.tups b xs e), fun b o xs e => frzs b o xs (I.base.frzs b o xs e), fun b ps e => ?_⟩, ?_, fun x c e => ?_, ?_, fun x c e => ?_, fun p hp => ?_, hok, I.len⟩
  · exact keep b o (neL b o e) hb (neC b o e hx) (I.base.keep b o e n hb hx) (I.base.free b o e n hx)
  · obtain ⟨sl, e1⟩ := I.base.slot b o e n hb hx
    obtain ⟨sl', e2⟩ := slot b _ (neL b o e) hb (neC b o e hx) e1 (I.base.free b o e n hx)
    exact ⟨sl', e2⟩
  · obtain ⟨o', e1⟩ := I.base.there b o e hx
    exact free b o' (neC b o e hx) e1 (I.base.free b o e n hx)
  · obtain ⟨o', e1⟩ := I.base.there b o e hx
    exact there b o' (neC b o e hx) e1
  · obtain ⟨m1, e1⟩ := I.base.tbls b ps e
    obtain ⟨m2, e2⟩ := tbls b _ e1
    exact ⟨m1 ++ m2, by rw [e2, Array.append_assoc]⟩
  · obtain ⟨m, hn, hl⟩ := I.loc
    refine ⟨m, ns m hn, fun i x v e1 e2 e3 => ?_⟩
    obtain ⟨u, r, l⟩ := hl i x v e1 e2 e3
    refine ⟨u, r, ?_⟩
    rcases l with l | ⟨k, c, e, z⟩
    · exact .inl l
    · exact .inr ⟨k, c, e, cellK x c e _ z⟩
  · obtain ⟨v, z⟩ := I.cell x c e
    exact ⟨v, cellK x c e v z⟩
  · obtain ⟨m, ⟨o, _, _, ho, _⟩, _⟩ := I.loc
    exact free _ o (fun z => (hch _ z).2.1 rfl) ho I.free
  · obtain ⟨v, o, ho, hd⟩ := I.cell x c e
    exact free c o (fun z => (hch c z).2.2.1 x c e rfl) ho (I.freeC x c e)
  · obtain ⟨e, n, ne, nf, d⟩ := I.pin p hp
    have nch : p.1 ∉ ch := fun z => (hch p.1 z).2.2.2 p hp rfl
    exact ⟨keep p.1 p.2 ne nf nch e n, free p.1 p.2 nch e n, ne, nf, d⟩
theorem Inv.un {t' : Nat} (I : Inv X pins σ H s) (u : Un X.fs [] H H' s.heap h') (hok : HOk X.prog X.w H' h') : Inv X pins σ H' { s with heap := h', toks := t' } := by
  obtain ⟨m, ⟨o, es, ep, ho, r⟩, _⟩ := id I.loc
  obtain ⟨sl, hL⟩ := u.any ho I.free (by simp)
  exact I.step (g' := s.gens) (d' := s.drawn) (ch := []) (fun _ z => nomatch z) (fun b o _ hb _ e n => u.keep b o e n hb (by simp)) (fun b o _ hb _ e n => u.slot b o e n hb (by simp)) (fun b o _ e n => u.free b o e n (by simp)) (fun b o _ e => u.there b o e (by simp)) u.tups u.frzs u.tbls (fun m' hm => by
    obtain ⟨o', es', ep', ho', r'⟩ := hm
    rw [ho] at ho'; cases ho'
    exact ⟨_, es', ep', hL, r'⟩) hok I.bare
theorem Inv.call {g' : Array GenState} {t' : Nat} {d' : Drawn} {ch : List Addr} (I : Inv X pins σ H s) (u : Un (frs X.stack) ch H H' s.heap h') (hok : HOk X.prog X.w H' h') (hg : AllBare g')
    (hch : ∀ b ∈ ch, (b ∈ X.ex ∨ X.s₀.heap.objs.size ≤ b) ∧ b ≠ X.env.locals ∧ (∀ x c, X.env.cells.lookup x = some c → c ≠ b) ∧ ∀ p ∈ X.pn ++ pins, p.1 ≠ b) :
    Inv X pins σ H' { s with heap := h', gens := g', drawn := d', toks := t' } := by
  obtain ⟨m, ⟨o, es, ep, ho, r⟩, _⟩ := id I.loc
  obtain ⟨sl, hL⟩ := u.any ho I.free fun z => (hch _ z).2.1 rfl
  exact I.step (ch := ch) hch (fun b o hL hb hc e n => u.keep b o e n (fun z => (List.mem_cons.mp (I.stkSub b z)).elim hL hb) hc) (fun b o _ _ hc e n => u.any e n hc) (fun b o hc e n => u.free b o e n hc) (fun b o hc e => u.there b o e hc) u.tups u.frzs u.tbls (fun m' hm => by
    obtain ⟨o', es', ep', ho', r'⟩ := hm
    rw [ho] at ho'; cases ho'
    exact ⟨_, es', ep', hL, r'⟩) hok hg
theorem Inv.turned {t' : Nat} {it : Addr} (I : Inv X pins σ H s) (k : ∀ b o, b ≠ it → s.heap.get? b = some o → h'.get? b = some o) (hn : H it = none) (hL : it ≠ X.env.locals)
    (h1 : it ∈ X.ex ∨ X.s₀.heap.objs.size ≤ it) (h2 : ∀ x c, X.env.cells.lookup x = some c → c ≠ it) (h3 : ∀ p ∈ X.pn ++ pins, p.1 ≠ it) : Inv X pins σ H { s with heap := h', toks := t' } := by
  have nit : ∀ b u, H b = some u → b ≠ it := fun b u e z => by rw [z, hn] at e; cases e
  refine I.step (g' := s.gens) (d' := s.drawn) (ch := [it]) (fun b hb => ?_) (fun b o _ _ hc e _ => k b o (fun z => hc (by simp [z])) e) (fun b o _ _ hc e _ => ⟨o.slots, k b o (fun z => hc (by simp [z])) e⟩) (fun _ _ _ _ n => n)
    (fun b o hc e => ⟨o, k b o (fun z => hc (by simp [z])) e⟩) (fun _ _ e => e) (fun _ _ _ e => e) (fun b ps e => ⟨#[], by rw [e]; simp⟩) (fun m hm => ?_) (fun b u e => ?_) I.bare
  · have e : b = it := by simpa using hb
    subst e
    exact ⟨h1, hL, h2, h3⟩
  · obtain ⟨o, es, ep, ho, r⟩ := hm
    exact ⟨o, es, ep, k _ o (Ne.symm hL) ho, r⟩
  · refine (I.hok b u e).stay (fun c v hc q => k c v ?_ q) (fun _ q => q) fun _ _ q => q
    rcases hc with z | z
    · rw [z]; exact nit b u e
    · exact nit c _ z
theorem Inv.tok (I : Inv X pins σ H s) (t : Nat) : Inv X pins σ H { s with toks := t } := I.un (h' := s.heap) (t' := t) Un.refl I.hok
theorem Inv.kept {t' : Nat} (I : Inv X pins σ H s) (k : ∀ b u, s.heap.get? b = some u → h'.get? b = some u) : Inv X pins σ H { s with heap := h', toks := t' } := I.un (Un.kept k) (I.hok.kept k)
theorem Inv.laid {a : Addr} {o : HO} {t' : Nat} (I : Inv X pins σ H s) (k : ∀ b u, s.heap.get? b = some u → h'.get? b = some u) (hp : s.heap.objs.size ≤ a) (new : ObjOk X.prog X.w (upd H a o) h' a o) :
    Inv X pins σ (upd H a o) { s with heap := h', toks := t' } := I.un (Un.laid k hp (I.hok.fresh hp)) (I.hok.laid k hp new)
theorem Inv.write {x e : Addr} {o : HO} {t' : Nat} (I : Inv X pins σ H s) (mu : Mut (H x)) (he : e = x ∨ H e = some (.own x)) (k : ∀ b u, b ≠ e → s.heap.get? b = some u → h'.get? b = some u) (heo : ∃ u, h'.get? e = some u)
    (new : ObjOk X.prog X.w (upd H x o) h' x o) : Inv X pins σ (upd H x o) { s with heap := h', toks := t' } := I.un (Un.write mu he k heo) (I.hok.write mu he k heo new)
theorem Inv.pins_of {pins' : List (Addr × Obj)} (I : Inv X pins σ H s) (h : ∀ p ∈ pins', s.heap.get? p.1 = some p.2 ∧ H p.1 = none ∧ p.1 ≠ X.env.locals ∧ p.1 ∉ X.fs ∧ ∀ v, p.2.data ≠ .cell v) : Inv X pins' σ H s :=
  ⟨I.ok, I.os, I.bare, I.base, I.loc, I.cell, I.free, I.freeC, fun p hp => (List.mem_append.mp hp).elim (fun z => I.pin p (List.mem_append_left _ z)) (h p), I.hok, I.len⟩

theorem nodup_ix {N : List Str} (hN : N.Nodup) {i j : Nat} {x : Str} (a : N[i]? = some x) (b : N[j]? = some x) : i = j := by
  obtain ⟨h1, e1⟩ := List.getElem?_eq_some_iff.mp a
  obtain ⟨h2, e2⟩ := List.getElem?_eq_some_iff.mp b
  exact (List.getElem_inj hN).mp (e1.trans e2.symm)

theorem store_ok2 {M : Model} {A : Around} {E : Value → Shared → Prop} {i : Nat} {x : Str} {v : V} {u : Value} {Q : Unit → Shared → Prop} (I : Inv X pins σ H s) (hN : X.N.Nodup) (hi : X.N[i]? = some x) (hx : Loc X.env.scope x) (r : RelV v u)
    (h : ∀ s', Inv X pins (σ.set i (some v)) H s' → (∃ a, Heap.SameBut a s.heap s'.heap ∧ (a = X.env.locals ∨ X.env.cells.lookup x = some a)) → Q () s') (hf : X.fn x = true ∨ X.env.scope.names.lookup x = some .local := by first | exact .inl rfl | exact .inr rfl | assumption) : wpAny M A (storeName X.env x u) Q E s := by
  obtain ⟨m, hn, hl⟩ := id I.loc
  have hcls : (X.env.scope.kind == .class || (X.env.scope.kind == .module && X.env.locals != X.env.globals)) = false := by rw [I.ok.kind]; rfl
  have hiσ : i < σ.length := by rw [I.len]; exact (List.getElem?_eq_some_iff.mp hi).1
  have cne := I.cne
  have tracked : ∀ {a : Addr} {h' : Heap}, (∃ o, s.heap.get? a = some o ∧ H a = none) → Heap.SameBut a s.heap h' → HOk X.prog X.w H h' := fun {a h'} ha hs b ob e => by
    obtain ⟨_, _, hfree⟩ := ha
    refine (I.hok b ob e).stay (fun c w' hc q => (hs.2 c ?_).trans q) (fun _ q => q) fun _ _ q => q
    rintro rfl
    rcases hc with rfl | hc
    · rw [hfree] at e; cases e
    · rw [hfree] at hc; cases hc
  rcases hx with hk | hk
  · refine wpAny_storeName_local hk hn (fun h' hn' hs => ?_) hcls
    obtain ⟨oL, _, _, hoL, _⟩ := id hn
    refine h _ ⟨I.ok, I.os, I.bare, ⟨fun b o e n hb hx => ?_, fun b o e n hb hx => ?_, I.base.free, fun b o e hx => ?_, I.base.tups, I.base.frzs, I.base.tbls⟩, ⟨_, hn', fun j y v' e1 e2 e3 => ?_⟩, fun y c e => ?_, I.free, I.freeC, fun p hp => ?_, tracked ⟨oL, hoL, I.free⟩ hs, by simpa using I.len⟩ ⟨_, hs, .inl rfl⟩
    · exact (hs.2 b (Nat.ne_of_lt (Nat.lt_of_lt_of_le (Heap.lt_size e) I.ok.above))).trans (I.base.keep b o e n hb hx)
    · obtain ⟨sl, e1⟩ := I.base.slot b o e n hb hx
      exact ⟨sl, (hs.2 b (Nat.ne_of_lt (Nat.lt_of_lt_of_le (Heap.lt_size e) I.ok.above))).trans e1⟩
    · obtain ⟨o', e1⟩ := I.base.there b o e hx
      exact ⟨o', (hs.2 b (Nat.ne_of_lt (Nat.lt_of_lt_of_le (Heap.lt_size e) I.ok.above))).trans e1⟩
    · by_cases hj : j = i
      · subst hj
        rw [hi] at e1; cases e1
        rw [List.getElem?_set_self hiσ] at e2
        cases e2
        exact ⟨u, r, .inl ⟨hk, by simp⟩⟩
      · rw [List.getElem?_set_ne (Ne.symm hj)] at e2
        obtain ⟨u', r', q⟩ := hl j y v' e1 e2 e3
        refine ⟨u', r', ?_⟩
        rcases q with ⟨k, e⟩ | ⟨k, c, e, z⟩
        · refine .inl ⟨k, ?_⟩
          have : y ≠ x := fun e => hj (nodup_ix hN e1 (e ▸ hi))
          simp [this, e]
        · exact .inr ⟨k, c, e, z.sameBut hs (cne y c e)⟩
    · obtain ⟨w', z⟩ := I.cell y c e
      exact ⟨w', z.sameBut hs (cne y c e)⟩
    · obtain ⟨e, n, ne, nf, d⟩ := I.pin p hp
      exact ⟨(hs.2 p.1 ne).trans e, n, ne, nf, d⟩
  · have hfn : X.fn x = true := by
      rcases hf with z | z
      · exact z
      · rw [z] at hk; cases hk
    obtain ⟨c, hc⟩ := I.ok.has x (.inl hk)
    obtain ⟨w', z⟩ := I.cell x c hc
    refine wpAny_storeName_cell I.ok.kind hk hc z (fun h' hc' hs => ?_)
    obtain ⟨oc, hoc, hocd⟩ := id z
    refine h { s with heap := h' } ⟨I.ok, I.os, I.bare, ⟨fun b o e n hb hx => ?_, fun b o e n hb hx => ?_, I.base.free, fun b o e hx => ?_, I.base.tups, I.base.frzs, I.base.tbls⟩, ⟨m, hn.sameBut hs (Ne.symm (cne x c hc)), fun j y v' e1 e2 e3 => ?_⟩, fun y c' e => ?_, I.free, I.freeC, fun p hp => ?_, tracked ⟨oc, hoc, I.freeC x c hc⟩ hs, by simpa using I.len⟩ ⟨c, hs, .inr hc⟩
    · exact (hs.2 b (Nat.ne_of_lt (Nat.lt_of_lt_of_le (Heap.lt_size e) (I.ok.cab x c hfn hc)))).trans (I.base.keep b o e n hb hx)
    · obtain ⟨sl, e1⟩ := I.base.slot b o e n hb hx
      exact ⟨sl, (hs.2 b (Nat.ne_of_lt (Nat.lt_of_lt_of_le (Heap.lt_size e) (I.ok.cab x c hfn hc)))).trans e1⟩
    · obtain ⟨o', e1⟩ := I.base.there b o e hx
      exact ⟨o', (hs.2 b (Nat.ne_of_lt (Nat.lt_of_lt_of_le (Heap.lt_size e) (I.ok.cab x c hfn hc)))).trans e1⟩
    · by_cases hj : j = i
      · subst hj
        rw [hi] at e1; cases e1
        rw [List.getElem?_set_self hiσ] at e2
        cases e2
        exact ⟨u, r, .inr ⟨.inl hk, c, hc, hc'⟩⟩
      · rw [List.getElem?_set_ne (Ne.symm hj)] at e2
        obtain ⟨u', r', q⟩ := hl j y v' e1 e2 e3
        refine ⟨u', r', ?_⟩
        rcases q with q | ⟨k, c', e, z'⟩
        · exact .inl q
        · refine .inr ⟨k, c', e, z'.sameBut hs ?_⟩
          rintro rfl
          exact hj (nodup_ix hN e1 (I.ok.inj _ _ _ e hc ▸ hi))
    · by_cases hcc : c' = c
      · subst hcc; exact ⟨_, hc'⟩
      · obtain ⟨w2, z2⟩ := I.cell y c' e
        exact ⟨w2, z2.sameBut hs hcc⟩
    · obtain ⟨e, n, ne, nf, d⟩ := I.pin p hp
      refine ⟨(hs.2 p.1 ?_).trans e, n, ne, nf, d⟩
      intro q
      rw [q, hoc] at e
      have q' : oc = p.2 := Option.some.inj e
      exact d w' (by rw [← q']; exact hocd)
theorem store_ok {M : Model} {A : Around} {E : Value → Shared → Prop} {i : Nat} {x : Str} {v : V} {u : Value} {Q : Unit → Shared → Prop} (I : Inv X pins σ H s) (hN : X.N.Nodup) (hi : X.N[i]? = some x) (hx : Loc X.env.scope x) (r : RelV v u)
    (h : ∀ s', Inv X pins (σ.set i (some v)) H s' → Q () s') (hf : X.fn x = true ∨ X.env.scope.names.lookup x = some .local := by first | exact .inl rfl | exact .inr rfl | assumption) : wpAny M A (storeName X.env x u) Q E s :=
  store_ok2 I hN hi hx r (fun s' I' _ => h s' I') hf
theorem Inv.call' {s' : Shared} {ch : List Addr} (I : Inv X pins σ H s) (ho : s'.os = s.os) (u : Un (frs X.stack) ch H H' s.heap s'.heap) (hok : HOk X.prog X.w H' s'.heap) (hg : AllBare s'.gens)
    (hch : ∀ b ∈ ch, (b ∈ X.ex ∨ X.s₀.heap.objs.size ≤ b) ∧ b ≠ X.env.locals ∧ (∀ x c, X.env.cells.lookup x = some c → c ≠ b) ∧ ∀ p ∈ X.pn ++ pins, p.1 ≠ b) : Inv X pins σ H' s' := by
  obtain ⟨h', g', d', t', o'⟩ := s'
  have e : o' = s.os := ho
  subst e
  exact I.call (g' := g') (t' := t') (d' := d') u hok hg hch
end

abbrev XK := Value → Option Addr → Hp → Prop
abbrev St := List (Option V)
abbrev VK := V → Hp → Prop
abbrev TE := St → Hp → VK → Prop
abbrev TT := St → Hp → (Bool → Hp → Prop) → Prop
abbrev TA := St → Hp → (List V → Hp → Prop) → Prop
structure Ends where
  nx : St → Hp → Prop
  rt : VK
  bk : St → Hp → Prop := fun _ _ => False
  ct : St → Hp → Prop := fun _ _ => False
abbrev TS := Ends → St → Hp → Prop

inductive BlQ (x : V) (H : Hp) (Q : Bool → Hp → Prop) : Prop
  | mk (c : Bool) (e : x = .bl c) (q : Q c H) : BlQ x H Q
inductive AndQ (tb : TE) (σ : St) (x : V) (H : Hp) (Q : VK) : Prop
  | mk (c : Bool) (e : x = .bl c) (q : if c = true then tb σ H Q else Q (.bl false) H) : AndQ tb σ x H Q
inductive OrQ (tb : TE) (σ : St) (x : V) (H : Hp) (Q : VK) : Prop
  | mk (c : Bool) (e : x = .bl c) (q : if c = true then Q (.bl true) H else tb σ H Q) : OrQ tb σ x H Q
inductive NotQ (x : V) (H : Hp) (Q : VK) : Prop
  | mk (c : Bool) (e : x = .bl c) (q : Q (.bl (!c)) H) : NotQ x H Q
inductive IIQ (x y : V) (H : Hp) (k : Int → Int → Hp → Prop) : Prop
  | mk (i j : Int) (e : x = .int i) (e' : y = .int j) (q : k i j H) : IIQ x y H k
inductive PtQ (x : V) (H : Hp) (Q : Option Int → Hp → Prop) : Prop
  | mk (i : Int) (e : x = .int i) (q : Q (some i) H) : PtQ x H Q
inductive ParQ (i j : Nat) (N : St → Hp → Prop) (σ : St) (vs : List V) (H : Hp) : Prop
  | mk (v w : V) (e : vs = [v, w]) (q : N ((σ.set i (some v)).set j (some w)) H) : ParQ i j N σ vs H
inductive EP (X : Cx) (pins : List (Addr × Obj)) (σ : St) (Q : VK) (u : Value) (s' : Shared) : Prop
  | mk (v : V) (H' : Hp) (I : Inv X pins σ H' s') (r : RelV v u) (q : Q v H') : EP X pins σ Q u s'
inductive TP (X : Cx) (pins : List (Addr × Obj)) (σ : St) (Q : Bool → Hp → Prop) (b : Bool) (s' : Shared) : Prop
  | mk (H' : Hp) (I : Inv X pins σ H' s') (q : Q b H') : TP X pins σ Q b s'
inductive AP (X : Cx) (pins : List (Addr × Obj)) (σ : St) (Q : List V → Hp → Prop) (us : List Value) (s' : Shared) : Prop
  | mk (vs : List V) (H' : Hp) (I : Inv X pins σ H' s') (r : Vals vs us) (q : Q vs H') : AP X pins σ Q us s'
theorem EP.elim {X : Cx} {pins : List (Addr × Obj)} {σ : St} {Q : VK} {u : Value} {s' : Shared} {G : Prop} (h : EP X pins σ Q u s') (k : ∀ (v : V) (H' : Hp), Inv X pins σ H' s' → RelV v u → Q v H' → G) : G := by
  cases h with
  | mk v H' I r q => exact k v H' I r q
theorem AP.elim {X : Cx} {pins : List (Addr × Obj)} {σ : St} {Q : List V → Hp → Prop} {us : List Value} {s' : Shared} {G : Prop} (h : AP X pins σ Q us s') (k : ∀ (vs : List V) (H' : Hp), Inv X pins σ H' s' → Vals vs us → Q vs H' → G) : G := by
  cases h with
  | mk v H' I r q => exact k v H' I r q
theorem TP.elim {X : Cx} {pins : List (Addr × Obj)} {σ : St} {Q : Bool → Hp → Prop} {b : Bool} {s' : Shared} {G : Prop} (h : TP X pins σ Q b s') (k : ∀ H' : Hp, Inv X pins σ H' s' → Q b H' → G) : G := by
  cases h with
  | mk H' I q => exact k H' I q
inductive SPN (X : Cx) (pins : List (Addr × Obj)) (N : St → Hp → Prop) (s' : Shared) : Prop
  | mk (σ : St) (H' : Hp) (I : Inv X pins σ H' s') (q : N σ H') : SPN X pins N s'
inductive SPR (X : Cx) (pins : List (Addr × Obj)) (Q : VK) (u : Value) (s' : Shared) : Prop
  | mk (v : V) (σ : St) (H' : Hp) (I : Inv X pins σ H' s') (r : RelV v u) (q : Q v H') : SPR X pins Q u s'
def SP (X : Cx) (pins : List (Addr × Obj)) (D : Ends) (f : Flow) (s' : Shared) : Prop :=
  match f with
  | .next => SPN X pins D.nx s'
  | .brk => SPN X pins D.bk s'
  | .cont => SPN X pins D.ct s'
  | .ret u => SPR X pins D.rt u s'

def PE (X : Cx) (e : Expr) (t : TE) : Prop :=
  ∀ (pins : List (Addr × Obj)) (s : Shared) (σ : St) (H : Hp) (Q : VK), Inv X pins σ H s → t σ H Q → wpAny (model X.prog X.w) X.A (eval e X.env) (EP X pins σ Q) X.xe s
def PT (X : Cx) (e : Expr) (t : TT) : Prop :=
  ∀ (pins : List (Addr × Obj)) (s : Shared) (σ : St) (H : Hp) (Q : Bool → Hp → Prop), Inv X pins σ H s → t σ H Q → wpAny (model X.prog X.w) X.A (isTrue e X.env (eval e X.env)) (TP X pins σ Q) X.xe s
def PW (X : Cx) (e : Expr) (t : TT) : Prop :=
  ∀ (whole : Sem Value) (pins : List (Addr × Obj)) (s : Shared) (σ : St) (H : Hp) (Q : Bool → Hp → Prop), Inv X pins σ H s → t σ H Q → wpAny (model X.prog X.w) X.A (isTrue e X.env whole) (TP X pins σ Q) X.xe s
theorem PW.pt {X : Cx} {e : Expr} {t : TT} (h : PW X e t) : PT X e t := h _
def PA (X : Cx) (es : List Expr) (t : TA) : Prop :=
  ∀ (pos : Pos) (pins : List (Addr × Obj)) (s : Shared) (σ : St) (H : Hp) (Q : List V → Hp → Prop), Inv X pins σ H s → t σ H Q → wpAny (model X.prog X.w) X.A (spliced (backTo pos (starEach es X.env))) (AP X pins σ Q) X.xe s
def PS (X : Cx) (st : Stmt) (t : TS) : Prop :=
  ∀ (pins : List (Addr × Obj)) (s : Shared) (σ : St) (H : Hp) (D : Ends), Inv X pins σ H s → t D σ H → wpAny (model X.prog X.w) X.A (exec st X.env) (SP X pins D) X.xe s
def PSs (X : Cx) (st : List Stmt) (t : TS) : Prop :=
  ∀ (pins : List (Addr × Obj)) (s : Shared) (σ : St) (H : Hp) (D : Ends), Inv X pins σ H s → t D σ H → wpAny (model X.prog X.w) X.A (execs st X.env) (SP X pins D) X.xe s
theorem thn {α : Type} {t : Sem α} {Q Q' : α → Shared → Prop} {M : Model} {A : Around} {E : Value → Shared → Prop} {s : Shared} (h : wpAny M A t Q E s) (hQ : ∀ a s, Q a s → Q' a s) : wpAny M A t Q' E s := wpAny_mono h hQ fun _ _ x => x
end L2

namespace L2
open PySem PySem.Spec PyProof.Rows
section
variable {X : Cx}

inductive tVarI (i : Nat) (σ : St) (H : Hp) (Q : VK) : Prop
  | mk (v : _) (x0 : σ[i]? = some (some v)) (x1 : Q v H) : tVarI i σ H Q
def tVar (i : Nat) : TE := fun σ H Q => tVarI i σ H Q
def tC (v : V) : TE := fun _ H Q => Q v H
theorem pe_var {i : Nat} {x : Str} {pos : Pos} (hN : X.N[i]? = some x) (hv : Vis X.env.scope x) (hd : (x == ("__debug__" : Str)) = false := by decide) (hcd : (x == ("__classdict__" : Str)) = false := by decide) : PE X (.Name x pos) (tVar i) := by
  intro pins s σ H Q I h
  obtain ⟨v, e, h⟩ := h
  obtain ⟨m, hn, hl⟩ := I.loc
  obtain ⟨u, r, l⟩ := hl i x v hN e hv
  have fin : EP X pins σ Q u s := ⟨v, H, I, r, h⟩
  rcases l with ⟨hk, hm⟩ | ⟨hk, c, hc, hcell⟩
  · exact wpAny_Name (wpAny_loadName_local I.ok.kind hk hn hm fin) hd
  · rcases hk with hk | hk
    · exact wpAny_Name (wpAny_loadName_cell I.ok.kind hk hc hcell fin) hd
    · exact wpAny_Name (wpAny_loadName_free I.ok.kind hk hc hcell fin hcd) hd
theorem pe_int {i j pos} : PE X (.Constant (.int i) j pos) (tC (.int i)) := fun _ _ _ H _ I h => wpAny_Constant_int ⟨.int i, H, I.tok _, ⟨_, rfl⟩, h⟩
theorem pe_bl {b j pos} : PE X (.Constant (.bool b) j pos) (tC (.bl b)) := fun _ _ _ H _ I h => Constant_bool ⟨.bl b, H, I, rfl, h⟩
theorem pe_non {j pos} : PE X (.Constant .none j pos) (tC .non) := fun _ _ _ H _ I h => Constant_none ⟨.non, H, I, rfl, h⟩
theorem pe_str {x j pos} : PE X (.Constant (.str x) j pos) (tC (.str x)) := fun _ _ _ H _ I h => Calls.Constant_str ⟨.str x, H, I.tok _, ⟨_, rfl⟩, h⟩

def Gl (X : Cx) (x : Str) : Prop := X.env.kindOf x = some .globalImplicit
theorem ld_glob {E : Value → Shared → Prop} {pins : List (Addr × Obj)} {s : Shared} {σ : St} {H : Hp} {x : Str} {u : Value} {pos : Pos} {Q : Value → Shared → Prop} (I : Inv X pins σ H s) (hg : Gl X x) (hm : X.mg x = some u) (h : Q u s)
    (hd : (x == ("__debug__" : Str)) = false := by decide) : wpAny (model X.prog X.w) X.A (eval (.Name x pos) X.env) Q E s :=
  Calls.Name_function_global I.ok.kind hg (Calls.loadGlobal_global (by rw [I.ok.glob]; exact I.mod.glob.keeps I.bk) hm h) hd
theorem ld_blt {E : Value → Shared → Prop} {pins : List (Addr × Obj)} {s : Shared} {σ : St} {H : Hp} {x : Str} {u : Value} {pos : Pos} {Q : Value → Shared → Prop} (I : Inv X pins σ H s) (hg : Gl X x) (hm : X.mg x = none) (hv : bootBuiltins x = some u) (h : Q u s)
    (hn : x ≠ "__name__" := by decide) (hd : (x == ("__debug__" : Str)) = false := by decide) : wpAny (model X.prog X.w) X.A (eval (.Name x pos) X.env) Q E s := by
  obtain ⟨mb, h1, h2⟩ := I.mod.blt
  exact Calls.Name_function_global I.ok.kind hg (Calls.loadGlobal_builtin (by rw [I.ok.glob]; exact I.mod.glob.keeps I.bk) hm (by rw [I.ok.blt]; exact h1.keeps I.bk) ((h2 x hn).trans hv) h) hd
theorem pe_glob {x : Str} {v : V} {u : Value} {pos : Pos} (hg : Gl X x) (hm : X.mg x = some u) (r : RelV v u) (hd : (x == ("__debug__" : Str)) = false := by decide) : PE X (.Name x pos) (tC v) :=
  fun _ _ _ H _ I h => ld_glob I hg hm ⟨v, H, I, r, h⟩ hd
theorem pe_bltn {x : Str} {v : V} {u : Value} {pos : Pos} (hg : Gl X x) (hm : X.mg x = none) (hv : bootBuiltins x = some u) (r : RelV v u) (hn : x ≠ "__name__" := by decide) (hd : (x == ("__debug__" : Str)) = false := by decide) : PE X (.Name x pos) (tC v) :=
  fun _ _ _ H _ I h => ld_blt I hg hm hv ⟨v, H, I, r, h⟩ hn hd

variable {a b : Expr} {ta tb : TE} {pos : Pos}
def PC (X : Cx) (op : CmpOp) (a b : Expr) (t : TE) : Prop :=
  ∀ (pins : List (Addr × Obj)) (s : Shared) (σ : St) (H : Hp) (Q : VK), Inv X pins σ H s → t σ H Q →
    wpAny (model X.prog X.w) X.A (eval a X.env) (fun v s₁ => wpAny (model X.prog X.w) X.A (eval b X.env) (fun u s₂ => wpAny (model X.prog X.w) X.A (compareOp op v u) (EP X pins σ Q) X.xe s₂) X.xe s₁) X.xe s
def tB (t : TE) : TT := fun σ H Q => t σ H fun x H1 => BlQ x H1 Q
theorem pe_cmp {op : CmpOp} {t : TE} (h : PC X op a b t) (h1 : behindInMarks op b = false := by first | exact nobehind _ (by decide) (by decide) | rfl) : PE X (.Compare a [op] [b] pos) t := fun pins s σ H Q I hw => wpAny_Compare1 (h pins s σ H Q I hw) h1
theorem pt_cmp {op : CmpOp} {t : TE} (h : PC X op a b t) (h1 : behindInMarks op b = false := by first | exact nobehind _ (by decide) (by decide) | rfl) : PT X (.Compare a [op] [b] pos) (tB t) := by
  intro pins s σ H Q I hw
  refine wpAny_isTrue_Compare1 (thn (h pins s σ H _ I hw) fun v s1 h1 => thn h1 fun u s2 h2 => thn h2 fun c s3 zq => zq.elim fun x H1 I1 r1 q1 => ?_) h1
  obtain ⟨d, rfl, q⟩ := q1
  cases r1
  exact wpAny_truthy_bool ⟨H1, I1, q⟩
theorem pt_val {e : Expr} {t : TE} (h : PE X e t) (he : ∀ whole, isTrue e X.env whole = (do let v ← whole; standAt e.pos; holding [v] (truthy v)) := by intro _; rfl) : PT X e (tB t) := by
  intro pins s σ H Q I hw
  refine isTrue_plain (thn (h pins s σ H _ I hw) fun v s1 zq => zq.elim fun x H1 I1 r1 q1 => ?_) (he _)
  obtain ⟨d, rfl, q⟩ := q1
  cases r1
  exact wpAny_truthy_bool ⟨H1, I1, q⟩

variable {tA tB' : TT} {rest : List Expr}
def tAnd (t u : TT) : TT := fun σ H Q => t σ H fun c H1 => if c = true then u σ H1 Q else Q false H1
def tOr (t u : TT) : TT := fun σ H Q => t σ H fun c H1 => if c = true then Q true H1 else u σ H1 Q
def tNot (t : TT) : TT := fun σ H Q => t σ H fun c H1 => Q (!c) H1
theorem pw_and1 (ha : PT X a tA) : PW X (.BoolOp .And [a] pos) tA := by
  intro wh pins s σ H Q I h
  refine isTrue_and (thn (ha pins s σ H Q I h) fun c s1 e => ?_)
  cases c with
  | true => exact isTrue_and_nil e
  | false => exact e
theorem pw_or1 (ha : PT X a tA) : PW X (.BoolOp .Or [a] pos) tA := by
  intro wh pins s σ H Q I h
  refine isTrue_or (thn (ha pins s σ H Q I h) fun c s1 e => ?_)
  cases c with
  | false => exact isTrue_or_nil e
  | true => exact e
theorem pw_and (ha : PT X a tA) (hb : PW X (.BoolOp .And (b :: rest) pos) tB') : PW X (.BoolOp .And (a :: b :: rest) pos) (tAnd tA tB') := by
  intro wh pins s σ H Q I h
  refine isTrue_and (thn (ha pins s σ H _ I h) fun c s1 zq => zq.elim fun H1 I1 q1 => ?_)
  cases c with
  | true => exact hb wh pins s1 σ H1 Q I1 q1
  | false => exact ⟨H1, I1, q1⟩
theorem pw_or (ha : PT X a tA) (hb : PW X (.BoolOp .Or (b :: rest) pos) tB') : PW X (.BoolOp .Or (a :: b :: rest) pos) (tOr tA tB') := by
  intro wh pins s σ H Q I h
  refine isTrue_or (thn (ha pins s σ H _ I h) fun c s1 zq => zq.elim fun H1 I1 q1 => ?_)
  cases c with
  | true => exact ⟨H1, I1, q1⟩
  | false => exact hb wh pins s1 σ H1 Q I1 q1
theorem pt_not (ha : PT X a tA) : PT X (.UnaryOp .Not a pos) (tNot tA) := by
  intro pins s σ H Q I h
  exact isTrue_not (thn (ha pins s σ H (fun c H1 => Q (!c) H1) I h) fun c s1 zq => zq.elim fun H1 I1 q1 => ⟨H1, I1, q1⟩)
def tAndV (ta tb : TE) : TE := fun σ H Q => ta σ H fun x H1 => AndQ tb σ x H1 Q
def tNotV (ta : TE) : TE := fun σ H Q => ta σ H fun x H1 => NotQ x H1 Q
theorem pe_one {op} {t : TE} (h : PE X a t) : PE X (.BoolOp op [a] pos) t := fun pins s σ H Q I hw => BoolOp_one (h pins s σ H Q I hw)
theorem pe_and (ha : PE X a ta) (hb : PE X (.BoolOp .And (b :: rest) pos) tb) : PE X (.BoolOp .And (a :: b :: rest) pos) (tAndV ta tb) := by
  intro pins s σ H Q I h
  refine BoolOp_and (thn (ha pins s σ H _ I h) fun v s1 zq => zq.elim fun x H1 I1 r1 q1 => ?_)
  obtain ⟨c, rfl, q1⟩ := q1
  cases r1
  refine wpAny_truthy_bool ?_
  cases c with
  | true => exact hb pins s1 σ H1 Q I1 q1
  | false => exact ⟨.bl false, H1, I1, rfl, q1⟩
theorem pe_not (ha : PE X a ta) : PE X (.UnaryOp .Not a pos) (tNotV ta) := by
  intro pins s σ H Q I h
  refine UnaryOp_ (thn (ha pins s σ H _ I h) fun v s1 zq => zq.elim fun x H1 I1 r1 q1 => ?_)
  obtain ⟨c, rfl, q1⟩ := q1
  cases r1
  exact not_of (wpAny_truthy_bool ⟨.bl (!c), H1, I1, rfl, q1⟩)
end
end L2

namespace L2
open PySem PySem.Spec PyProof.Rows

def SqL (K : PySem.W.Frag) (H : Hp) (a : Addr) (xs : List V) : Prop :=
  Rd H a (.lst xs) ∨
    ∃ (o : Obj) (its : Array Value) (n : Nat), K.lookup a = some o ∧ o.cls = .type "list" ∧ o.dict = none ∧ o.data = .seq its n ∧ its.size ≤ sizeLine ∧ Vals xs its.toList
def SqT (K : PySem.W.Frag) (H : Hp) (a : Addr) (xs : List V) : Prop :=
  Rd H a (.tup xs) ∨
    ∃ (o : Obj) (its : Array Value) (n : Nat), K.lookup a = some o ∧ o.cls = .type "tuple" ∧ o.data = .seq its n ∧ its.size ≤ sizeLine ∧ Vals xs its.toList
def absV : Value → Option V
  | .none => some .non
  | .bool b => some (.bl b)
  | .int i _ => some (.int i)
  | .str x _ => some (.str x)
  | .bytes b _ => some (.byt b)
  | .float b _ => some (.flt b)
  | .ref a => some (.ref a)
  | .type n => some (.ty n)
  | _ => none
theorem RelV.abs {x : V} {u : Value} (r : RelV x u) : absV u = some x := by
  cases x with
  | non => cases r; rfl
  | bl _ => cases r; rfl
  | int _ => obtain ⟨t, rfl⟩ := r; rfl
  | str _ => obtain ⟨t, rfl⟩ := r; rfl
  | byt _ => obtain ⟨t, rfl⟩ := r; rfl
  | flt _ => obtain ⟨t, rfl⟩ := r; rfl
  | ref _ => cases r; rfl
  | ty _ => cases r; rfl
theorem RelV.inj {x y : V} {u : Value} (r : RelV x u) (q : RelV y u) : x = y := Option.some.inj (r.abs.symm.trans q.abs)
theorem Vals.inj {xs ys : List V} {us : List Value} (r : Vals xs us) (s : Vals ys us) : xs = ys := by
  induction r generalizing ys with
  | nil => exact (List.eq_nil_of_length_eq_zero (Paired.length s)).symm
  | cons a _ ih =>
    cases ys with
    | nil => exact absurd (Paired.length s) (Nat.succ_ne_zero _).symm
    | cons y yr =>
      obtain ⟨u, ur, e, h, t⟩ := Vals.inv s
      injection e with e1 e2
      subst e1 e2
      rw [a.inj h, ih t]
section
variable {X : Cx} {pins : List (Addr × Obj)} {σ : St} {H : Hp} {s : Shared} {a : Addr} {xs ys : List V}
theorem SqL.of {K : PySem.W.Frag} (h : H a = some (.lst xs)) : SqL K H a xs := .inl (.inl h)
theorem SqT.of {K : PySem.W.Frag} (h : H a = some (.tup xs)) : SqT K H a xs := .inl (.inl h)
theorem Inv.list (I : Inv X pins σ H s) (h : SqL X.K H a xs) : ∃ its : List Value, Vals xs its ∧ PlainL s.heap a its.toArray ∧ xs.length ≤ sizeLine := by
  rcases h with h | ⟨o, its, n, hk, hc, hd, hs, hz, r⟩
  · obtain ⟨z, its, n, r, e⟩ := h.ok I.hok
    exact ⟨its, r, ⟨_, n, e, rfl, rfl, rfl⟩, z⟩
  · refine ⟨its.toList, r, ⟨o, n, I.kIn a o hk, hc, hd, by simpa using hs⟩, ?_⟩
    have e := r.length
    simp only [Array.length_toList] at e
    omega
theorem Inv.tuple (I : Inv X pins σ H s) (h : SqT X.K H a xs) : ∃ its : List Value, Vals xs its ∧ IsTup s.heap a its.toArray ∧ xs.length ≤ sizeLine := by
  rcases h with h | ⟨o, its, n, hk, hc, hs, hz, r⟩
  · obtain ⟨z, its, r, p⟩ := h.ok I.hok
    exact ⟨its, r, p, z⟩
  · refine ⟨its.toList, r, ⟨o, I.kIn a o hk, hc, n, by simpa using hs⟩, ?_⟩
    have e := r.length
    simp only [Array.length_toList] at e
    omega
theorem Inv.list_inj (I : Inv X pins σ H s) (h : SqL X.K H a xs) (h' : SqL X.K H a ys) : xs = ys := by
  obtain ⟨its, r, ⟨o, n, e, _, _, d⟩, _⟩ := I.list h
  obtain ⟨its', r', ⟨o', n', e', _, _, d'⟩, _⟩ := I.list h'
  rw [e] at e'; cases e'
  rw [d] at d'
  injection d' with d1 _
  have : its = its' := by simpa using congrArg Array.toList d1
  subst this
  exact r.inj r'
theorem Inv.tuple_inj (I : Inv X pins σ H s) (h : SqT X.K H a xs) (h' : SqT X.K H a ys) : xs = ys := by
  obtain ⟨its, r, ⟨o, e, _, n, d⟩, _⟩ := I.tuple h
  obtain ⟨its', r', ⟨o', e', _, n', d'⟩, _⟩ := I.tuple h'
  rw [e] at e'; cases e'
  rw [d] at d'
  injection d' with d1 _
  have : its = its' := by simpa using congrArg Array.toList d1
  subst this
  exact r.inj r'
end

abbrev Cx.wish (X : Cx) (E : Value → Shared → Prop) : Cx := { X with xe := E }
abbrev Cx.nox (X : Cx) : Cx := X.wish fun _ _ => False
theorem Cx.Ok.wish {X : Cx} (ok : X.Ok) (E : Value → Shared → Prop) : (X.wish E).Ok :=
  ⟨ok.mod, ok.kind, ok.glob, ok.blt, ok.above, ok.inj, ok.has, ok.cab, ok.hd, ok.frames, ok.stk, ok.exf, ok.bs, ok.bsz, ok.noex, ok.exfs, ok.funs, ok.frf⟩
theorem Cx.Ok.unwish {X : Cx} {E : Value → Shared → Prop} (ok : (X.wish E).Ok) : X.Ok :=
  ⟨ok.mod, ok.kind, ok.glob, ok.blt, ok.above, ok.inj, ok.has, ok.cab, ok.hd, ok.frames, ok.stk, ok.exf, ok.bs, ok.bsz, ok.noex, ok.exfs, ok.funs, ok.frf⟩
section
variable {X : Cx} {pins : List (Addr × Obj)} {σ : St} {H : Hp} {s : Shared} {E : Value → Shared → Prop}
theorem Inv.wish (I : Inv X pins σ H s) (E : Value → Shared → Prop) : Inv (X.wish E) pins σ H s := ⟨I.ok.wish E, I.os, I.bare, I.base, I.loc, I.cell, I.free, I.freeC, I.pin, I.hok, I.len⟩
theorem Inv.unwish (I : Inv (X.wish E) pins σ H s) : Inv X pins σ H s := ⟨I.ok.unwish, I.os, I.bare, I.base, I.loc, I.cell, I.free, I.freeC, I.pin, I.hok, I.len⟩
theorem SP.unwish {D : Ends} {f : Flow} {s' : Shared} (h : SP (X.wish E) pins D f s') : SP X pins D f s' := by
  cases f with
  | next => obtain ⟨σ', H', I, q⟩ := h; exact ⟨σ', H', I.unwish, q⟩
  | brk => obtain ⟨σ', H', I, q⟩ := h; exact ⟨σ', H', I.unwish, q⟩
  | cont => obtain ⟨σ', H', I, q⟩ := h; exact ⟨σ', H', I.unwish, q⟩
  | ret u => obtain ⟨v, σ', H', I, r, q⟩ := h; exact ⟨v, σ', H', I.unwish, r, q⟩
theorem PSs.nox {st : List Stmt} {t : TS} (h : PSs X.nox st t) : PSs X st t := fun pins s σ H D I hw =>
  wpAny_mono (h pins s σ H D (I.wish _) hw) (fun _ _ q => q.unwish) fun _ _ z => False.elim z
end

section
variable {X : Cx} {st : Stmt} {rest : List Stmt} {t u : TS} {e : Expr} {te : TE} {pos : Pos}
def tNext : TS := fun D σ H => D.nx σ H
def tSeq (t u : TS) : TS := fun D σ H => t { D with nx := u D } σ H
theorem pss_nil : PSs X [] tNext := fun _ _ σ H _ I h => wpAny_execs_nil ⟨σ, H, I, h⟩
theorem pss_cons (h1 : PS X st t) (h2 : PSs X rest u) : PSs X (st :: rest) (tSeq t u) := by
  intro pins s σ H D I h
  refine wpAny_execs_cons (thn (h1 pins s σ H { D with nx := u D } I h) fun f s1 q => ?_)
  cases f with
  | next =>
    obtain ⟨σ', H', I', q⟩ := q
    exact h2 pins s1 σ' H' D I' q
  | ret v => exact q
  | brk => exact q
  | cont => exact q
theorem pss_one (h1 : PS X st t) : PSs X [st] t := by
  intro pins s σ H D I h
  refine wpAny_execs_cons (thn (h1 pins s σ H D I h) fun f s1 q => ?_)
  cases f with
  | next => exact wpAny_execs_nil q
  | ret v => exact q
  | brk => exact q
  | cont => exact q
theorem Inv.quiet {pins : List (Addr × Obj)} {σ : St} {H : Hp} {s : Shared} (I : Inv X pins σ H s) : interactive X.env = false := by simp [interactive, I.ok.kind]
def tDrop (te : TE) : TS := fun D σ H => te σ H fun _ H1 => D.nx σ H1
theorem ps_expr (he : PE X e te) (hs : swapsWith e none pos.line X.env = pure false := by rfl) : PS X (.Expr e pos) (tDrop te) := by
  intro pins s σ H D I h
  exact wpAny_Expr_any (thn (he pins s σ H _ I h) fun v s1 zq => zq.elim fun x H1 I1 r1 q1 => ⟨σ, H1, I1, q1⟩) I.quiet hs
def tRet (te : TE) : TS := fun D σ H => te σ H D.rt
theorem ps_ret (he : PE X e te) : PS X (.Return (some e) pos) (tRet te) := by
  intro pins s σ H D I h
  exact wpAny_Return_some (thn (he pins s σ H _ I h) fun v s1 zq => zq.elim fun x H1 I1 r1 q1 => ⟨x, σ, H1, I1, r1, q1⟩)
def tIfS (c : TT) (t u : TS) : TS := fun D σ H => c σ H fun b H1 => if b = true then t D σ H1 else u D σ H1
theorem ps_if {c : Expr} {a b : List Stmt} {tc : TT} (hc : PT X c tc) (ha : PSs X a t) (hb : PSs X b u) : PS X (.If c a b pos) (tIfS tc t u) := by
  intro pins s σ H D I h
  refine wpAny_If (thn (hc pins s σ H _ I h) fun d s1 zq => zq.elim fun H1 I1 q1 => ?_)
  cases d with
  | true => exact ha pins s1 σ H1 D I1 q1
  | false => exact hb pins s1 σ H1 D I1 q1
end

abbrev TG := V → St → Hp → (St → Hp → Prop) → Prop
abbrev TGs := List V → St → Hp → (St → Hp → Prop) → Prop
def PG (X : Cx) (target : Expr) (t : TG) : Prop :=
  ∀ (pins : List (Addr × Obj)) (s : Shared) (σ : St) (H : Hp) (v : V) (u : Value) (Q : St → Hp → Prop), Inv X pins σ H s → RelV v u → t v σ H Q →
    wpAny (model X.prog X.w) X.A (assign target X.env u) (fun _ s' => ∃ σ' H', Inv X pins σ' H' s' ∧ Q σ' H') X.xe s
def PGs (X : Cx) (ts : List Expr) (t : TGs) : Prop :=
  ∀ (pins : List (Addr × Obj)) (s : Shared) (σ : St) (H : Hp) (vs : List V) (us : List Value) (Q : St → Hp → Prop), Inv X pins σ H s → Vals vs us → t vs σ H Q →
    wpAny (model X.prog X.w) X.A (assignInOrder ((assignEach ts X.env).map (·.2)) us) (fun _ s' => ∃ σ' H', Inv X pins σ' H' s' ∧ Q σ' H') X.xe s
abbrev TSet := V → V → V → Hp → (Hp → Prop) → Prop
def PSet (X : Cx) (t : TSet) : Prop :=
  ∀ (pins : List (Addr × Obj)) (s : Shared) (σ : St) (H : Hp) (o i v : V) (ov iv u : Value) (Q : Hp → Prop), Inv X pins σ H s → RelV o ov → RelV i iv → RelV v u → t o i v H Q →
    wpAny (model X.prog X.w) X.A (setItem ov iv u) (fun _ s' => ∃ H', Inv X pins σ H' s' ∧ Q H') X.xe s
abbrev TIp := V → V → Hp → VK → Prop
section
variable {X : Cx} {pos : Pos}
def gName (i : Nat) : TG := fun v σ H Q => Q (σ.set i (some v)) H
theorem pg_name {i : Nat} {x : Str} (hN : X.N.Nodup) (hi : X.N[i]? = some x) (hx : Loc X.env.scope x) (hf : X.fn x = true ∨ X.env.scope.names.lookup x = some .local := by first | exact .inl rfl | exact .inr rfl | assumption) : PG X (.Name x pos) (gName i) := by
  intro pins s σ H v u Q I r h
  exact wpAny_assign_Name (store_ok I hN hi hx r (fun s' I' => ⟨_, H, I', h⟩) hf)
def gNil : TGs := fun vs σ H Q => vs = [] ∧ Q σ H
inductive gConsI (t : TG) (u : TGs) (vs : List V) (σ : St) (H : Hp) (Q : (St → Hp → Prop)) : Prop
  | mk (v : _) (r : _) (x0 : vs = v :: r) (x1 : t v σ H fun σ' H' => u r σ' H' Q) : gConsI t u vs σ H Q
def gCons (t : TG) (u : TGs) : TGs := fun vs σ H Q => gConsI t u vs σ H Q
theorem pgs_nil : PGs X [] gNil := by
  intro pins s σ H vs us Q I r h
  obtain ⟨e, h⟩ := h
  subst e
  cases r
  exact assignInOrder_nil ⟨σ, H, I, h⟩
theorem pgs_cons {e : Expr} {es : List Expr} {t : TG} {u : TGs} (h1 : PG X e t) (h2 : PGs X es u)
    (hs : (assignEach (e :: es) X.env).map (·.2) = assign e X.env :: (assignEach es X.env).map (·.2) := by rfl) : PGs X (e :: es) (gCons t u) := by
  intro pins s σ H vs us Q I r h
  obtain ⟨v, vr, e1, h⟩ := h
  subst e1
  cases r with
  | cons r rr =>
    rw [hs]
    refine assignInOrder_cons (thn (h1 pins s σ H _ _ _ I r h) fun _ s1 ⟨σ1, H1, I1, q1⟩ => ?_)
    exact h2 pins s1 σ1 H1 _ _ Q I1 rr q1
inductive gTupI (K : PySem.W.Frag) (n : Nat) (t : TGs) (v : V) (σ : St) (H : Hp) (Q : (St → Hp → Prop)) : Prop
  | mk (a : _) (xs : _) (x0 : v = .ref a) (x1 : SqT K H a xs) (x2 : xs.length = n) (x3 : t xs σ H Q) : gTupI K n t v σ H Q
def gTup (K : PySem.W.Frag) (n : Nat) (t : TGs) : TG := fun v σ H Q => gTupI K n t v σ H Q
theorem pg_tup {es : List Expr} {k : Nat} {t : TGs} {n : Nat} (hc : X.calm = true) (h : PGs X es t)
    (hn : (assignEach es X.env).length = n := by rfl) (hst : (assignEach es X.env).findIdx? (·.1) = none := by rfl) : PG X (.Tuple es k pos) (gTup X.K n t) := by
  intro pins s σ H v u Q I r hw
  obtain ⟨a, xs, e1, hq, hl, hw⟩ := hw
  subst e1
  cases r
  obtain ⟨its, rv, ht, hz⟩ := I.tuple hq
  refine assign_Tuple_tuple (I.ok.hd hc) ht (by simp [hn, ← hl, rv.length]) hst fun h' hx => ?_
  have I1 : Inv X pins σ H { s with heap := h' } := I.kept (t' := s.toks) fun b o e => hx b o (Nat.ne_of_lt (Heap.lt_size e)) e
  exact h pins _ σ H xs _ Q I1 (by simpa using rv) hw
def gSub (to ti : TE) (t : TSet) : TG := fun v σ H Q => to σ H fun o H1 => ti σ H1 fun i H2 => t o i v H2 fun H3 => Q σ H3
theorem pg_sub {o i : Expr} {to ti : TE} {t : TSet} (ho : PE X o to) (hi : PE X i ti) (hs : PSet X t)
    (ha : ∀ v, assign (.Subscript o i pos) X.env v = (do
      let ov ← holding [v] (eval o X.env)
      let iv ← holding [v, ov] (eval i X.env)
      standAt pos
      holding [v, ov, iv] (setItem ov iv v)
      release [v, ov, iv] []) := by intro _; rfl) : PG X (.Subscript o i pos) (gSub to ti t) := by
  intro pins s σ H v u Q I r h
  rw [ha]
  refine wpAny_bind (wpAny_holding (thn (ho pins s σ H _ I h) fun ov s1 zq => zq.elim fun x H1 I1 r1 q1 => ?_))
  refine wpAny_bind (wpAny_holding (thn (hi pins s1 σ H1 _ I1 q1) fun iv s2 zq => zq.elim fun y H2 I2 r2 q2 => ?_))
  refine wpAny_bind (wpAny_standAt (wpAny_bind (wpAny_holding (thn (hs pins s2 σ H2 x y v ov iv u _ I2 r1 r2 r q2) fun _ s3 ⟨H3, I3, q3⟩ => ?_))))
  exact wpAny_release ⟨σ, H3, I3, q3⟩
def tAsg (te : TE) (g : TG) : TS := fun D σ H => te σ H fun x H1 => g x σ H1 D.nx
theorem ps_asg {tg e : Expr} {te : TE} {g : TG} (he : PE X e te) (hg : PG X tg g) (hs : swapsWithSole [tg] e pos.line X.env = pure false := by rfl) (hw : swappedStores [tg] e X.env = pure none := by rfl)
    (h1 : (assignEach [tg] X.env).map (·.2) = [assign tg X.env] := by rfl) : PS X (.Assign [tg] e pos) (tAsg te g) := by
  intro pins s σ H D I h
  refine wpAny_Assign_stores (thn (he pins s σ H _ I h) fun v s1 zq => zq.elim fun x H1 I1 r1 q1 => ?_) hs hw
  rw [h1]
  exact thn (hg pins s1 σ H1 x v _ I1 r1 q1) fun _ s2 ⟨σ', H', I', q'⟩ => ⟨σ', H', I', q'⟩
theorem ps_set {i : Nat} {x : Str} {e : Expr} {te : TE} {pos' : Pos} (hN : X.N.Nodup) (hi : X.N[i]? = some x) (hx : Loc X.env.scope x) (he : PE X e te) (hs : swapsWith e (some (.Name x pos')) pos.line X.env = pure false := by rfl) (hf : X.fn x = true ∨ X.env.scope.names.lookup x = some .local := by first | exact .inl rfl | exact .inr rfl | assumption) :
    PS X (.Assign [.Name x pos'] e pos) (tAsg te (gName i)) := by
  intro pins s σ H D I h
  refine wpAny_Assign_Name (thn (he pins s σ H _ I h) fun v s1 zq => zq.elim fun y H1 I1 r1 q1 => ?_) hs
  exact store_ok I1 hN hi hx r1 (fun s2 I2 => ⟨_, H1, I2, q1⟩) hf
inductive tAugI (i : Nat) (te : TE) (ti : TIp) (D : Ends) (σ : St) (H : Hp) : Prop
  | mk (x : _) (x0 : σ[i]? = some (some x)) (x1 : te σ H fun y H1 => ti x y H1 fun z H2 => D.nx (σ.set i (some z)) H2) : tAugI i te ti D σ H
inductive ipII (f : Int → Int → Int) (x : V) (y : V) (H : Hp) (Q : VK) : Prop
  | mk (i : _) (j : _) (x0 : x = .int i) (x1 : y = .int j) (x2 : Q (.int (f i j)) H) : ipII f x y H Q
end

section
variable {X : Cx} {pos : Pos}
inductive tWhileI (c : TT) (tb : TS) (D : Ends) (σ : St) (H : Hp) : Prop
  | mk (W : Nat → St → Hp → Prop) (x0 : (∃ m, W m σ H)) (x1 : ∀ m σ H, W m σ H → c σ H fun b H1 => if b = true then ∃ N : St → Hp → Prop, (∀ σ' H', N σ' H' → ∃ m', m' < m ∧ W m' σ' H') ∧ tb { D with nx := N, ct := N, bk := D.nx } σ H1 else D.nx σ H1) : tWhileI c tb D σ H
def tWhile (c : TT) (tb : TS) : TS := fun D σ H => tWhileI c tb D σ H
theorem ps_while {c : Expr} {body : List Stmt} {tc : TT} {tb : TS} (hp : PassesOwn (model X.prog X.w) X.A X.env X.xe) (hc : PT X c tc) (hb : PSs X body tb) : PS X (.While c body [] pos) (tWhile tc tb) := by
  intro pins s σ H D I h
  obtain ⟨W, ⟨m0, w0⟩, turn⟩ := h
  refine wpAny_While (codeAny_whileLoop (fun n s' => ∃ σ' H', Inv X pins σ' H' s' ∧ W n σ' H') ?_ m0 ⟨σ, H, I, w0⟩)
  rintro n s1 ⟨σ1, H1, I1, w1⟩
  refine wpAny_passesOwn hp (thn (hc pins s1 σ1 H1 _ I1 (turn n σ1 H1 w1)) fun b s2 zq => zq.elim fun H2 I2 q2 => ?_)
  cases b with
  | true =>
    obtain ⟨N, hN, q2⟩ := q2
    rw [if_pos rfl]
    refine wpAny_passesOwn hp (thn (hb pins s2 σ1 H2 _ I2 q2) fun f s3 q3 => ?_)
    cases f with
    | next =>
      obtain ⟨σ3, H3, I3, n3⟩ := q3
      obtain ⟨m', hm, w3⟩ := hN σ3 H3 n3
      exact ⟨m', hm, σ3, H3, I3, w3⟩
    | cont =>
      obtain ⟨σ3, H3, I3, n3⟩ := q3
      obtain ⟨m', hm, w3⟩ := hN σ3 H3 n3
      exact ⟨m', hm, σ3, H3, I3, w3⟩
    | brk => exact q3
    | ret v => exact q3
  | false =>
    rw [if_neg Bool.false_ne_true]
    exact wpAny_execs_nil ⟨σ1, H2, I2, q2⟩
end

structure It where
  go : Nat → Hp → Prop
  yld : Nat → Hp → V → Hp → Prop
  stop : Nat → Hp → Prop
def FpOk (X : Cx) (pins : List (Addr × Obj)) (H : Hp) (b : Addr) : Prop :=
  H b = none ∧ b ≠ X.env.locals ∧ b ∉ X.fs ∧ (b ∈ X.ex ∨ X.s₀.heap.objs.size ≤ b) ∧ (∀ x c, X.env.cells.lookup x = some c → c ≠ b) ∧ ∀ p ∈ X.pn ++ pins, p.1 ≠ b
theorem Inv.fpOk {X : Cx} {pins : List (Addr × Obj)} {σ : St} {H H' : Hp} {s : Shared} {b : Addr} (I : Inv X pins σ H s) (hb : s.heap.objs.size ≤ b) (hn : H' b = none) : FpOk X pins H' b := by
  refine ⟨hn, Nat.ne_of_gt (Nat.lt_of_lt_of_le I.lt hb), I.nofs hb, .inr (Nat.le_trans I.sz hb), fun x c e z => ?_, fun p hp z => ?_⟩
  · obtain ⟨v, q⟩ := I.cell x c e
    exact absurd (Nat.lt_of_lt_of_le q.lt (by rw [z]; exact hb)) (Nat.lt_irrefl _)
  · exact absurd (Nat.lt_of_lt_of_le (Heap.lt_size (I.pin p hp).1) (by rw [z]; exact hb)) (Nat.lt_irrefl _)
structure Turn (P : Program) (w : World) (K : PySem.W.Frag) (tg : Expr) (J : It) (fp : List Addr) (it : Addr) (tn : Nat → Heap → Prop) : Prop where
  mem : it ∈ fp
  obj : ∀ i h, tn i h → ∀ b ∈ fp, ∃ o, h.get? b = some o ∧ ∀ v, o.data ≠ .cell v
  keep : ∀ i h h', tn i h → (∀ b ∈ fp, ∀ o, h.get? b = some o → h'.get? b = some o) → tn i h'
  item : ∀ (X : Cx), X.prog = P → X.w = w → X.K = K → X.calm = true → ∀ (i : Nat) (pins : List (Addr × Obj)) (s : Shared) (σ : St) (H : Hp) (E : Value → Shared → Prop), Inv X pins σ H s → (∀ b ∈ fp, FpOk X pins H b) → tn i s.heap → J.go i H →
    wpAny (model P w) X.A (pyNext (.ref it)) (fun r s1 => ∃ u, r = some u ∧
      wpAny (model P w) X.A (letOwnedTupleGo tg (.ref it) u) (fun _ s2 => ∃ x H', Inv X pins σ H' s2 ∧ RelV x u ∧ J.yld i H x H' ∧ tn (i + 1) s2.heap ∧ ∀ b ∈ fp, H' b = none) E s1) E s
  done : ∀ (X : Cx), X.prog = P → X.w = w → X.K = K → X.calm = true → ∀ (i : Nat) (pins : List (Addr × Obj)) (s : Shared) (σ : St) (H : Hp) (E : Value → Shared → Prop), Inv X pins σ H s → (∀ b ∈ fp, FpOk X pins H b) → tn i s.heap → J.stop i H →
    wpAny (model P w) X.A (pyNext (.ref it)) (fun r s1 => r = none ∧ Inv X pins σ H s1) E s
  self : ∀ (A : Around) (i : Nat) (s : Shared) (Q : Value → Shared → Prop) (E : Value → Shared → Prop), tn i s.heap → Q (.ref it) s → wpAny (model P w) A (pyIter (.ref it)) Q E s
abbrev TI := St → Hp → (It → Hp → Prop) → Prop
inductive PIE (X : Cx) (pins : List (Addr × Obj)) (σ : St) (tg : Expr) (R : It → Hp → Prop) (itv : Value) (s2 : Shared) : Prop
  | mk (it : Addr) (fp : List Addr) (tn : Nat → Heap → Prop) (J : It) (H' : Hp) (e : itv = .ref it) (I : Inv X pins σ H' s2) (t : Turn X.prog X.w X.K tg J fp it tn) (z : tn 0 s2.heap) (f : ∀ b ∈ fp, FpOk X pins H' b) (q : R J H') : PIE X pins σ tg R itv s2
def PI (X : Cx) (tg iter : Expr) (wi : TI) : Prop :=
  ∀ (pins : List (Addr × Obj)) (s : Shared) (σ : St) (H : Hp) (R : It → Hp → Prop), Inv X pins σ H s → wi σ H R →
    wpAny (model X.prog X.w) X.A (eval iter X.env) (fun v s1 => wpAny (model X.prog X.w) X.A (pyIter v) (PIE X pins σ tg R) X.xe s1) X.xe s

theorem go_of {M : Model} {A : Around} {E : Value → Shared → Prop} {s : Shared} {tg : Expr} {it : Addr} {u : Value} {o : Obj} {n : String} {vs : Array Value} {Q : Unit → Shared → Prop} (ho : s.heap.get? it = some o) (hc : o.cls = .type n) (hd : o.data = .fields vs)
    (hn : ["enumerate", "zip", "dict_itemiterator", "dict_reverseitemiterator", "odict_iterator", "itertools.zip_longest", "itertools.pairwise"].contains n = false) (hQ : Q () s) : wpAny M A (letOwnedTupleGo tg (.ref it) u) Q E s := by
  unfold letOwnedTupleGo
  cases tg <;> first
    | exact wpAny_pure hQ
    | (cases u <;> first
        | exact wpAny_pure hQ
        | (refine wpAny_bind (wpAny_load ho ?_)
           rw [hc, hd]
           show wpAny M A (if (["enumerate", "zip", "dict_itemiterator", "dict_reverseitemiterator", "odict_iterator", "itertools.zip_longest", "itertools.pairwise"].contains n && vs[0]? == some (rawInt _)) = true then _ else _) Q E s
           rw [if_neg (by intro h; rw [hn, Bool.false_and] at h; cases h)]
           exact wpAny_pure hQ))

def Itl (K : PySem.W.Frag) (a : Addr) : It :=
  ⟨fun i H => ∃ xs x, SqL K H a xs ∧ xs[i]? = some x, fun i H x H' => H' = H ∧ ∀ xs, SqL K H a xs → xs[i]? = some x, fun i H => ∃ xs, SqL K H a xs ∧ xs.length ≤ i⟩
def Itt (K : PySem.W.Frag) (a : Addr) : It :=
  ⟨fun i H => ∃ xs x, SqT K H a xs ∧ xs[i]? = some x, fun i H x H' => H' = H ∧ ∀ xs, SqT K H a xs → xs[i]? = some x, fun i H => ∃ xs, SqT K H a xs ∧ xs.length ≤ i⟩
def Itr (lo : Int) (n : Nat) : It := ⟨fun i _ => i < n, fun i H x H' => H' = H ∧ x = .int (lo + i), fun i _ => n ≤ i⟩
theorem turn_list {P : Program} {w : World} {K : PySem.W.Frag} {tg : Expr} (a it : Addr) : Turn P w K tg (Itl K a) [it] it (fun i h => h.IsListIter it a i) where
  mem := by simp
  obj := fun i h st b hb => by
    have e : b = it := by simpa using hb
    subst e
    obtain ⟨o, e, c, d⟩ := st
    exact ⟨o, e, fun v z => by rw [d] at z; cases z⟩
  keep := fun i h h' st k => st.at fun o e => k it (by simp) o e
  item := by
    intro X hP hw hK hc i pins s σ H E I hf st hg
    subst hP hw hK
    obtain ⟨xs, x, hq, hx⟩ := hg
    obtain ⟨its, rv, p, hz⟩ := I.list hq
    obtain ⟨u, hu, ru⟩ := rv.get hx
    obtain ⟨f0, f1, f2, f3, f4, f5⟩ := hf it (by simp)
    refine wpAny_pyNext_list_item st p.isList (x := u) (by simpa using hu) fun h' st' sb => ?_
    have I1 : Inv X pins σ H { s with heap := h' } := I.turned (t' := s.toks) (fun b o hb e => (sb.2 b hb).trans e) f0 f1 f3 f4 f5
    obtain ⟨o, e, c, d⟩ := id st'
    exact ⟨u, rfl, go_of (s := { s with heap := h' }) e c d (by decide) ⟨x, H, I1, ru, ⟨rfl, fun ys hy => by rw [I.list_inj hy hq]; exact hx⟩, st', fun b hb => (hf b hb).1⟩⟩
  done := by
    intro X hP hw hK hc i pins s σ H E I hf st hg
    subst hP hw hK
    obtain ⟨xs, hq, hx⟩ := hg
    obtain ⟨its, rv, p, hz⟩ := I.list hq
    obtain ⟨f0, f1, f2, f3, f4, f5⟩ := hf it (by simp)
    have hl := rv.length
    exact wpAny_pyNext_list_end (I.ok.hd hc) st p.isList (by simp; omega) fun h' eb => ⟨rfl, I.turned (t' := s.toks) (fun b o hb e => eb b o hb e) f0 f1 f3 f4 f5⟩
  self := fun _ _ _ _ _ st h => wpAny_pyIter_listiter st h
theorem turn_tuple {P : Program} {w : World} {K : PySem.W.Frag} {tg : Expr} (a it : Addr) : Turn P w K tg (Itt K a) [it] it (fun i h => h.IsTupleIter it a i) where
  mem := by simp
  obj := fun i h st b hb => by
    have e : b = it := by simpa using hb
    subst e
    obtain ⟨o, e, c, d⟩ := st
    exact ⟨o, e, fun v z => by rw [d] at z; cases z⟩
  keep := fun i h h' st k => st.at fun o e => k it (by simp) o e
  item := by
    intro X hP hw hK hc i pins s σ H E I hf st hg
    subst hP hw hK
    obtain ⟨xs, x, hq, hx⟩ := hg
    obtain ⟨its, rv, p, hz⟩ := I.tuple hq
    obtain ⟨u, hu, ru⟩ := rv.get hx
    obtain ⟨f0, f1, f2, f3, f4, f5⟩ := hf it (by simp)
    refine wpAny_pyNext_tuple_item st (show s.heap.IsTuple a its.toArray from p) (x := u) (by simpa using hu) fun h' st' sb => ?_
    have I1 : Inv X pins σ H { s with heap := h' } := I.turned (t' := s.toks) (fun b o hb e => (sb.2 b hb).trans e) f0 f1 f3 f4 f5
    obtain ⟨o, e, c, d⟩ := id st'
    exact ⟨u, rfl, go_of (s := { s with heap := h' }) e c d (by decide) ⟨x, H, I1, ru, ⟨rfl, fun ys hy => by rw [I.tuple_inj hy hq]; exact hx⟩, st', fun b hb => (hf b hb).1⟩⟩
  done := by
    intro X hP hw hK hc i pins s σ H E I hf st hg
    subst hP hw hK
    obtain ⟨xs, hq, hx⟩ := hg
    obtain ⟨its, rv, p, hz⟩ := I.tuple hq
    obtain ⟨f0, f1, f2, f3, f4, f5⟩ := hf it (by simp)
    have hl := rv.length
    exact wpAny_pyNext_tuple_end (I.ok.hd hc) st (show s.heap.IsTuple a its.toArray from p) (by simp; omega) fun h' eb => ⟨rfl, I.turned (t' := s.toks) (fun b o hb e => eb b o hb e) f0 f1 f3 f4 f5⟩
  self := fun _ _ _ _ _ st h => wpAny_pyIter_tupleiter st h
theorem turn_range {P : Program} {w : World} {K : PySem.W.Frag} {tg : Expr} (it : Addr) (lo : Int) (n : Nat) : Turn P w K tg (Itr lo n) [it] it (fun i h => IsRangeIter h it (lo + (i : Nat) * 1) ((n : Int) - (i : Nat)) 1) where
  mem := by simp
  obj := fun i h st b hb => by
    have e : b = it := by simpa using hb
    subst e
    exact ⟨_, st, fun v z => by
      have z' : Data.fields _ = Data.cell v := z
      cases z'⟩
  keep := fun i h h' st k => k it (by simp) _ st
  item := by
    intro X hP hw hK hc i pins s σ H E I hf st hg
    subst hP hw hK
    obtain ⟨f0, f1, f2, f3, f4, f5⟩ := hf it (by simp)
    have W := Walks.range (prog := X.prog) (w := X.w) (I.ok.hd hc) it lo 1 n
    refine W.item i s _ _ hg st fun v h' tk hv st' kk => ?_
    obtain ⟨t, rfl⟩ := hv
    have I1 : Inv X pins σ H { s with heap := h', toks := tk } := I.turned (fun b o hb e => kk b o (by simpa using hb) e) f0 f1 f3 f4 f5
    refine ⟨_, rfl, go_of (s := { s with heap := h', toks := tk }) (n := "range_iterator") st' rfl rfl (by decide) ⟨.int (lo + i), H, I1, ⟨t, ?_⟩, ⟨rfl, rfl⟩, st', fun b hb => (hf b hb).1⟩⟩
    rw [Int.mul_one]
  done := by
    intro X hP hw hK hc i pins s σ H E I hf st hg
    subst hP hw hK
    obtain ⟨f0, f1, f2, f3, f4, f5⟩ := hf it (by simp)
    exact wpAny_pyNext_range_end (I.ok.hd hc) st (by have : n ≤ i := hg; omega) fun h' eb => ⟨rfl, I.turned (t' := s.toks) (fun b o hb e => eb b o hb e) f0 f1 f3 f4 f5⟩
  self := fun _ _ _ _ _ st h => wpAny_pyIter_rangeiter st h
end L2

namespace L2
open PySem PySem.Spec PyProof.Rows
section
variable {X : Cx} {tg : Expr}
def iList (K : PySem.W.Frag) (tl : TE) : TI := fun σ H R => tl σ H fun x H1 => ∃ a, x = .ref a ∧ (∃ xs, SqL K H1 a xs) ∧ R (Itl K a) H1
def iTup (K : PySem.W.Frag) (tl : TE) : TI := fun σ H R => tl σ H fun x H1 => ∃ a, x = .ref a ∧ (∃ xs, SqT K H1 a xs) ∧ R (Itt K a) H1
theorem pi_list {l : Expr} {tl : TE} (hl : PE X l tl) : PI X tg l (iList X.K tl) := by
  intro pins s σ H R I h
  refine thn (hl pins s σ H _ I h) fun v s1 zq => zq.elim fun x H1 I1 r1 q1 => ?_
  obtain ⟨a, e, ⟨xs, hq⟩, q⟩ := q1
  subst e
  cases r1
  obtain ⟨its, rv, p, hz⟩ := I1.list hq
  refine wpAny_pyIter_list p.isList ?_
  refine ⟨s1.heap.objs.size, [s1.heap.objs.size], _, _, H1, rfl, I1.kept (t' := s1.toks) fun b o e => Heap.get?_push_of_some _ e, turn_list a _, ⟨_, Heap.get?_push_size _ rfl, rfl, rfl⟩, fun b hb => ?_, q⟩
  have e : b = s1.heap.objs.size := by simpa using hb
  subst e
  exact I1.fpOk (Nat.le_refl _) (I1.hok.fresh (Nat.le_refl _))
theorem pi_tup {l : Expr} {tl : TE} (hl : PE X l tl) : PI X tg l (iTup X.K tl) := by
  intro pins s σ H R I h
  refine thn (hl pins s σ H _ I h) fun v s1 zq => zq.elim fun x H1 I1 r1 q1 => ?_
  obtain ⟨a, e, ⟨xs, hq⟩, q⟩ := q1
  subst e
  cases r1
  obtain ⟨its, rv, p, hz⟩ := I1.tuple hq
  refine wpAny_pyIter_tuple (show s1.heap.IsTuple a its.toArray from p) ?_
  refine ⟨s1.heap.objs.size, [s1.heap.objs.size], _, _, H1, rfl, I1.kept (t' := s1.toks) fun b o e => Heap.get?_push_of_some _ e, turn_tuple a _, ⟨_, Heap.get?_push_size _ rfl, rfl, rfl⟩, fun b hb => ?_, q⟩
  have e : b = s1.heap.objs.size := by simpa using hb
  subst e
  exact I1.fpOk (Nat.le_refl _) (I1.hok.fresh (Nat.le_refl _))
theorem range_it {pins : List (Addr × Obj)} {σ : St} {H : Hp} {s : Shared} {R : It → Hp → Prop} {E : Value → Shared → Prop} {lo hi : Int} {t u v : Tok} {tk : Nat} (I : Inv X pins σ H s) (h1 : -(2 ^ 62) ≤ lo) (h2 : lo < 2 ^ 62) (h3 : -(2 ^ 62) ≤ hi) (h4 : hi < 2 ^ 62)
    (q : R (Itr lo (hi - lo).toNat) H) : wpAny (model X.prog X.w) X.A (pyIter (.ref s.heap.objs.size)) (PIE X pins σ tg R) E { s with heap := s.heap.push { cls := .type "range", data := .fields #[.int lo t, .int hi u, .int 1 v] }, toks := tk } := by
  refine wpAny_pyIter_range (IsRange.new ..) (small_one h1 h2 h3 h4) ?_
  have I1 : Inv X pins σ H { s with heap := s.heap.push { cls := .type "range", data := .fields #[.int lo t, .int hi u, .int 1 v] }, toks := tk } := I.kept fun b o e => Heap.get?_push_of_some _ e
  refine ⟨(s.heap.push { cls := .type "range", data := .fields #[.int lo t, .int hi u, .int 1 v] }).objs.size, [(s.heap.push { cls := .type "range", data := .fields #[.int lo t, .int hi u, .int 1 v] }).objs.size], _, _, H, rfl,
    I1.kept (t' := tk) fun b o e => Heap.get?_push_of_some _ e, turn_range _ lo (hi - lo).toNat, ?_, fun b hb => ?_, q⟩
  · have e1 : lo + ((0 : Nat) : Int) * 1 = lo := by simp
    have e2 : (((hi - lo).toNat : Nat) : Int) - ((0 : Nat) : Int) = Builtin.Range.rangeSize lo hi 1 := by rw [rangeSize_one]; split <;> omega
    show IsRangeIter _ _ (lo + ((0 : Nat) : Int) * 1) ((((hi - lo).toNat : Nat) : Int) - ((0 : Nat) : Int)) 1
    rw [e1, e2]
    exact Heap.get?_push_size _ rfl
  · have e : b = (s.heap.push { cls := .type "range", data := .fields #[.int lo t, .int hi u, .int 1 v] }).objs.size := by simpa using hb
    subst e
    exact I1.fpOk (Nat.le_refl _) (I1.hok.fresh (Nat.le_refl _))
def iRng1 (ta : TA) : TI := fun σ H R => ta σ H fun vs H1 => ∃ j : Int, vs = [.int j] ∧ -(2 ^ 62) ≤ j ∧ j < 2 ^ 62 ∧ R (Itr 0 j.toNat) H1
def iRng2 (ta : TA) : TI := fun σ H R => ta σ H fun vs H1 => ∃ i j : Int, vs = [.int i, .int j] ∧ (-(2 ^ 62) ≤ i ∧ i < 2 ^ 62 ∧ -(2 ^ 62) ≤ j ∧ j < 2 ^ 62) ∧ R (Itr i (j - i).toNat) H1
theorem pi_range1 {a : Expr} {ta : TA} {p pos : Pos} (hg : Gl X "range") (hm : X.mg "range" = none) (ha : PA X [a] ta) (hs : starEach [a] X.env = [(false, eval a X.env)] := by rfl) : PI X tg (.Call (.Name "range" p) [a] [] pos) (iRng1 ta) := by
  intro pins s σ H R I h
  refine Call_ (ld_blt I hg hm boot_range (PyProof.Rows.callWith_type1 (thn (ha pos pins s σ H _ I h) fun us s1 zq => zq.elim fun vs H1 I1 r1 q1 => ?_) hs rfl))
  obtain ⟨j, e, q1, q2, q⟩ := q1
  subst e
  cases r1 with
  | cons r rr =>
    cases rr
    obtain ⟨t, rfl⟩ := r
    exact call_range_1 (range_it I1 (by omega) (by omega) q1 q2 (by simpa using q))
theorem pi_range2 {a b : Expr} {ta : TA} {p pos : Pos} (hg : Gl X "range") (hm : X.mg "range" = none) (ha : PA X [a, b] ta) (hs : starEach [a, b] X.env = [(false, eval a X.env), (false, eval b X.env)] := by rfl) (hs2 : starEach [b] X.env = [(false, eval b X.env)] := by rfl) :
    PI X tg (.Call (.Name "range" p) [a, b] [] pos) (iRng2 ta) := by
  intro pins s σ H R I h
  refine Call_ (ld_blt I hg hm boot_range (PyProof.Rows.callWith_type1 (thn (ha pos pins s σ H _ I h) fun us s1 zq => zq.elim fun vs H1 I1 r1 q1 => ?_) (by rw [hs, hs2]) (by rw [hs2]; rfl)))
  obtain ⟨i, j, e, ⟨q1, q2, q3, q4⟩, q⟩ := q1
  subst e
  cases r1 with
  | cons r rr =>
    cases rr with
    | cons r' rr =>
      cases rr
      obtain ⟨t, rfl⟩ := r
      obtain ⟨t', rfl⟩ := r'
      exact call_range_2 (range_it I1 q1 q2 q3 q4 q)

def tFor (wi : TI) (g : TG) (tb : TS) : TS := fun D σ H => wi σ H fun J H1 => ∃ W : Nat → Nat → St → Hp → Prop, (∃ m, W 0 m σ H1) ∧ ∀ i m σ H, W i m σ H →
  (J.stop i H ∧ D.nx σ H) ∨ (J.go i H ∧ ∃ N : St → Hp → Prop, (∀ σ' H', N σ' H' → ∃ m', m' < m ∧ W (i + 1) m' σ' H') ∧ ∀ x H', J.yld i H x H' → g x σ H' fun σ2 H2 => tb { D with nx := N, ct := N, bk := D.nx } σ2 H2)
def pinsAt (fp : List Addr) (h : Heap) : List (Addr × Obj) := fp.filterMap fun b => (h.get? b).map fun o => (b, o)
theorem mem_pinsAt {fp : List Addr} {h : Heap} {b : Addr} {o : Obj} (hb : b ∈ fp) (e : h.get? b = some o) : (b, o) ∈ pinsAt fp h := List.mem_filterMap.mpr ⟨b, hb, by rw [e]; rfl⟩
theorem of_pinsAt {fp : List Addr} {h : Heap} {p : Addr × Obj} (hp : p ∈ pinsAt fp h) : p.1 ∈ fp ∧ h.get? p.1 = some p.2 := by
  obtain ⟨b, hb, e⟩ := List.mem_filterMap.mp hp
  cases q : h.get? b with
  | none => rw [q] at e; cases e
  | some o =>
    rw [q] at e
    have e' : (b, o) = p := Option.some.inj e
    subst e'
    exact ⟨hb, q⟩
theorem Inv.pinned {pins : List (Addr × Obj)} {σ : St} {H : Hp} {s : Shared} {fp : List Addr} (I : Inv X pins σ H s) (hf : ∀ b ∈ fp, FpOk X pins H b) (ho : ∀ b ∈ fp, ∃ o, s.heap.get? b = some o ∧ ∀ v, o.data ≠ .cell v) : Inv X (pins ++ pinsAt fp s.heap) σ H s :=
  I.pins_of fun p hp => (List.mem_append.mp hp).elim (fun z => I.pin p (List.mem_append_right _ z)) fun z => by
    obtain ⟨hb, e⟩ := of_pinsAt z
    obtain ⟨f0, f1, f2, _⟩ := hf p.1 hb
    obtain ⟨o, e', d⟩ := ho p.1 hb
    rw [e] at e'; cases e'
    exact ⟨e, f0, f1, f2, d⟩
theorem Inv.unpinned {pins pl : List (Addr × Obj)} {σ : St} {H : Hp} {s : Shared} (I : Inv X (pins ++ pl) σ H s) : Inv X pins σ H s := I.pins_of fun p hp => I.pin p (List.mem_append_right _ (List.mem_append_left _ hp))
theorem ps_for {iter : Expr} {body : List Stmt} {wi : TI} {g : TG} {tb : TS} {pos : Pos} (hp : PassesOwn (model X.prog X.w) X.A X.env X.xe) (hc : X.calm = true) (hi : PI X tg iter wi) (hg : PG X tg g) (hb : PSs X body tb)
    (hs : ∀ x, foldedSetIterable iter X.env x = pure x := by intro _; rfl) : PS X (.For tg iter body [] pos) (tFor wi g tb) := by
  intro pins s σ H D I h
  refine wpAny_For (thn (hi pins s σ H _ I h) fun v s1 h1 => thn h1 fun itv s2 h2 => ?_) hs
  obtain ⟨it, fp, tn, J, H2, e, I2, T, st2, f2, W, ⟨m0, w0⟩, turn⟩ := h2
  subst e
  have stat : ∀ {H' : Hp}, (∀ b ∈ fp, H' b = none) → ∀ b ∈ fp, FpOk X pins H' b := fun hn b hb => ⟨hn b hb, (f2 b hb).2⟩
  refine codeAny_forLoop_any (fun n s' => ∃ i σ' H', Inv X pins σ' H' s' ∧ tn i s'.heap ∧ (∀ b ∈ fp, H' b = none) ∧ W i n σ' H') ?_ m0 ⟨0, σ, H2, I2, st2, fun b hb => (f2 b hb).1, w0⟩
  rintro n s3 ⟨i, σ3, H3, I3, st3, fr3, w3⟩
  rcases turn i n σ3 H3 w3 with ⟨stop, qn⟩ | ⟨go, N, hN, step⟩
  · refine wpAny_passesOwn hp (thn (T.done X rfl rfl rfl hc i pins s3 σ3 H3 X.xe I3 (stat fr3) st3 stop) fun r s4 ⟨hr, I4⟩ => ?_)
    subst hr
    exact wpAny_execs_nil ⟨σ3, H3, I4, qn⟩
  · refine wpAny_passesOwn hp (thn (T.item X rfl rfl rfl hc i pins s3 σ3 H3 X.xe I3 (stat fr3) st3 go) fun r s4 ⟨u, hr, h4⟩ => ?_)
    subst hr
    refine wpAny_passesOwn hp (thn h4 fun _ s5 ⟨x, H5, I5, r5, y5, st5, fr5⟩ => ?_)
    have I5' := I5.pinned (stat fr5) (T.obj _ _ st5)
    refine wpAny_passesOwn hp (thn (hg _ s5 σ3 H5 x u _ I5' r5 (step x H5 y5)) fun _ s6 ⟨σ6, H6, I6, q6⟩ => ?_)
    refine wpAny_passesOwn hp (thn (hb _ s6 σ6 H6 _ I6 q6) fun f s7 q7 => ?_)
    have again : ∀ {σ7 : St} {H7 : Hp}, Inv X (pins ++ pinsAt fp s5.heap) σ7 H7 s7 → N σ7 H7 → ∃ m, m < n ∧ ∃ i σ' H', Inv X pins σ' H' s7 ∧ tn i s7.heap ∧ (∀ b ∈ fp, H' b = none) ∧ W i m σ' H' := fun {σ7 H7} I7 n7 => by
      obtain ⟨m', hm, w7⟩ := hN σ7 H7 n7
      refine ⟨m', hm, i + 1, σ7, H7, I7.unpinned, T.keep _ _ _ st5 fun b hb o e => (I7.pin (b, o) (List.mem_append_right _ (List.mem_append_right _ (mem_pinsAt hb e)))).1, fun b hb => ?_, w7⟩
      obtain ⟨o, e, d⟩ := T.obj _ _ st5 b hb
      exact (I7.pin (b, o) (List.mem_append_right _ (List.mem_append_right _ (mem_pinsAt hb e)))).2.1
    cases f with
    | next => obtain ⟨σ7, H7, I7, n7⟩ := q7; exact again I7 n7
    | cont => obtain ⟨σ7, H7, I7, n7⟩ := q7; exact again I7 n7
    | brk => obtain ⟨σ7, H7, I7, q7⟩ := q7; exact ⟨σ7, H7, I7.unpinned, q7⟩
    | ret v => obtain ⟨x7, σ7, H7, I7, r7, q7⟩ := q7; exact ⟨x7, σ7, H7, I7.unpinned, r7, q7⟩
end

theorem for_list {K : PySem.W.Frag} {a : Addr} {xs : List V} {g : TG} {tb : TS} {D : Ends} {σ : St} {H : Hp} (Pv : Nat → St → Hp → Prop) (h0 : Pv 0 σ H) (hl : ∀ i σ H, i ≤ xs.length → Pv i σ H → SqL K H a xs)
    (hs : ∀ i x σ H, xs[i]? = some x → Pv i σ H → g x σ H fun σ2 H2 => tb { D with nx := Pv (i + 1), ct := Pv (i + 1), bk := D.nx } σ2 H2) (hd : ∀ σ H, Pv xs.length σ H → D.nx σ H) :
    ∃ W : Nat → Nat → St → Hp → Prop, (∃ m, W 0 m σ H) ∧ ∀ i m σ H, W i m σ H →
      ((Itl K a).stop i H ∧ D.nx σ H) ∨ ((Itl K a).go i H ∧ ∃ N : St → Hp → Prop, (∀ σ' H', N σ' H' → ∃ m', m' < m ∧ W (i + 1) m' σ' H') ∧ ∀ x H', (Itl K a).yld i H x H' → g x σ H' fun σ2 H2 => tb { D with nx := N, ct := N, bk := D.nx } σ2 H2) := by
  refine ⟨fun i m σ H => m = xs.length - i ∧ i ≤ xs.length ∧ Pv i σ H, ⟨xs.length, by simp, Nat.zero_le _, h0⟩, ?_⟩
  rintro i m σ H ⟨rfl, hi, p⟩
  have q := hl i σ H hi p
  by_cases hlt : i < xs.length
  · refine .inr ⟨⟨xs, xs[i], q, by simp [hlt]⟩, Pv (i + 1), fun σ' H' p' => ⟨xs.length - (i + 1), by omega, rfl, hlt, p'⟩, fun x H' y => ?_⟩
    obtain ⟨e, y⟩ := y
    subst e
    exact hs i x σ _ (y xs q) p
  · have e : i = xs.length := by omega
    subst e
    exact .inl ⟨⟨xs, q, Nat.le_refl _⟩, hd σ H p⟩
theorem for_tup {K : PySem.W.Frag} {a : Addr} {xs : List V} {g : TG} {tb : TS} {D : Ends} {σ : St} {H : Hp} (Pv : Nat → St → Hp → Prop) (h0 : Pv 0 σ H) (hl : ∀ i σ H, i ≤ xs.length → Pv i σ H → SqT K H a xs)
    (hs : ∀ i x σ H, xs[i]? = some x → Pv i σ H → g x σ H fun σ2 H2 => tb { D with nx := Pv (i + 1), ct := Pv (i + 1), bk := D.nx } σ2 H2) (hd : ∀ σ H, Pv xs.length σ H → D.nx σ H) :
    ∃ W : Nat → Nat → St → Hp → Prop, (∃ m, W 0 m σ H) ∧ ∀ i m σ H, W i m σ H →
      ((Itt K a).stop i H ∧ D.nx σ H) ∨ ((Itt K a).go i H ∧ ∃ N : St → Hp → Prop, (∀ σ' H', N σ' H' → ∃ m', m' < m ∧ W (i + 1) m' σ' H') ∧ ∀ x H', (Itt K a).yld i H x H' → g x σ H' fun σ2 H2 => tb { D with nx := N, ct := N, bk := D.nx } σ2 H2) := by
  refine ⟨fun i m σ H => m = xs.length - i ∧ i ≤ xs.length ∧ Pv i σ H, ⟨xs.length, by simp, Nat.zero_le _, h0⟩, ?_⟩
  rintro i m σ H ⟨rfl, hi, p⟩
  have q := hl i σ H hi p
  by_cases hlt : i < xs.length
  · refine .inr ⟨⟨xs, xs[i], q, by simp [hlt]⟩, Pv (i + 1), fun σ' H' p' => ⟨xs.length - (i + 1), by omega, rfl, hlt, p'⟩, fun x H' y => ?_⟩
    obtain ⟨e, y⟩ := y
    subst e
    exact hs i x σ _ (y xs q) p
  · have e : i = xs.length := by omega
    subst e
    exact .inl ⟨⟨xs, q, Nat.le_refl _⟩, hd σ H p⟩
theorem for_range {lo : Int} {n : Nat} {g : TG} {tb : TS} {D : Ends} {σ : St} {H : Hp} (Pv : Nat → St → Hp → Prop) (h0 : Pv 0 σ H)
    (hs : ∀ i σ H, i < n → Pv i σ H → g (.int (lo + i)) σ H fun σ2 H2 => tb { D with nx := Pv (i + 1), ct := Pv (i + 1), bk := D.nx } σ2 H2) (hd : ∀ σ H, Pv n σ H → D.nx σ H) :
    ∃ W : Nat → Nat → St → Hp → Prop, (∃ m, W 0 m σ H) ∧ ∀ i m σ H, W i m σ H →
      ((Itr lo n).stop i H ∧ D.nx σ H) ∨ ((Itr lo n).go i H ∧ ∃ N : St → Hp → Prop, (∀ σ' H', N σ' H' → ∃ m', m' < m ∧ W (i + 1) m' σ' H') ∧ ∀ x H', (Itr lo n).yld i H x H' → g x σ H' fun σ2 H2 => tb { D with nx := N, ct := N, bk := D.nx } σ2 H2) := by
  refine ⟨fun i m σ H => m = n - i ∧ i ≤ n ∧ Pv i σ H, ⟨n, by simp, Nat.zero_le _, h0⟩, ?_⟩
  rintro i m σ H ⟨rfl, hi, p⟩
  by_cases hlt : i < n
  · refine .inr ⟨hlt, Pv (i + 1), fun σ' H' p' => ⟨n - (i + 1), by omega, rfl, hlt, p'⟩, fun x H' y => ?_⟩
    obtain ⟨e, y⟩ := y
    subst e y
    exact hs i σ _ hlt p
  · have e : i = n := by omega
    subst e
    exact .inl ⟨Nat.le_refl _, hd σ H p⟩
end L2

namespace L2
open PySem PySem.Spec PyProof.Rows

abbrev R2 := V → V → Hp → VK → Prop
def OpR (X : Cx) (f : Value → Value → Sem Value) (r : R2) : Prop :=
  ∀ (pins : List (Addr × Obj)) (s : Shared) (σ : St) (H : Hp) (x y : V) (v u : Value) (Q : VK), Inv X pins σ H s → RelV x v → RelV y u → r x y H Q →
    wpAny (model X.prog X.w) X.A (f v u) (EP X pins σ Q) X.xe s
def UnR (X : Cx) (f : Value → Sem Value) (r : V → Hp → VK → Prop) : Prop :=
  ∀ (pins : List (Addr × Obj)) (s : Shared) (σ : St) (H : Hp) (x : V) (v : Value) (Q : VK), Inv X pins σ H s → RelV x v → r x H Q →
    wpAny (model X.prog X.w) X.A (f v) (EP X pins σ Q) X.xe s
def CallR (X : Cx) (f : Value) (r : List V → Hp → VK → Prop) : Prop :=
  ∀ (pins : List (Addr × Obj)) (s : Shared) (σ : St) (H : Hp) (xs : List V) (us : List Value) (Q : VK), Inv X pins σ H s → Vals xs us → r xs H Q →
    wpAny (model X.prog X.w) X.A (call f us) (EP X pins σ Q) X.xe s
def TruR (X : Cx) (r : V → Hp → (Bool → Hp → Prop) → Prop) : Prop :=
  ∀ (pins : List (Addr × Obj)) (s : Shared) (σ : St) (H : Hp) (x : V) (v : Value) (Q : Bool → Hp → Prop), Inv X pins σ H s → RelV x v → r x H Q →
    wpAny (model X.prog X.w) X.A (truthy v) (TP X pins σ Q) X.xe s

def tOp (r : R2) (ta tb : TE) : TE := fun σ H Q => ta σ H fun x H1 => tb σ H1 fun y H2 => r x y H2 Q
def tUn (r : V → Hp → VK → Prop) (ta : TE) : TE := fun σ H Q => ta σ H fun x H1 => r x H1 Q
inductive rII (C : Int → Int → Prop) (g : Int → Int → V) (x : V) (y : V) (H : Hp) (Q : VK) : Prop
  | mk (i : _) (j : _) (x0 : x = .int i) (x1 : y = .int j) (x2 : C i j) (x3 : Q (g i j) H) : rII C g x y H Q
def rI (C : Int → Int → Prop) (g : Int → Int → V) : R2 := fun x y H Q => rII C g x y H Q
inductive rI0I (g : Int → Int → V) (x : V) (y : V) (H : Hp) (Q : VK) : Prop
  | mk (i : _) (j : _) (x0 : x = .int i) (x1 : y = .int j) (x2 : Q (g i j) H) : rI0I g x y H Q
def rI0 (g : Int → Int → V) : R2 := fun x y H Q => rI0I g x y H Q
inductive rUI (g : Int → V) (x : V) (H : Hp) (Q : VK) : Prop
  | mk (i : _) (x0 : x = .int i) (x1 : Q (g i) H) : rUI g x H Q
def rU (g : Int → V) : V → Hp → VK → Prop := fun x H Q => rUI g x H Q

section
variable {X : Cx} {a b c : Expr} {ta tb tc : TE} {pos : Pos}

theorem binT (ha : PE X a ta) (hb : PE X b tb) {pins : List (Addr × Obj)} {s : Shared} {σ : St} {H : Hp} {R : V → V → Hp → Prop} (I : Inv X pins σ H s)
    (h : ta σ H fun x H1 => tb σ H1 fun y H2 => R x y H2) {Q : Value → Shared → Prop} {f : Value → Value → Sem Value}
    (hf : ∀ v u s2 x y H2, Inv X pins σ H2 s2 → RelV x v → RelV y u → R x y H2 → wpAny (model X.prog X.w) X.A (f v u) Q X.xe s2) :
    wpAny (model X.prog X.w) X.A (eval a X.env) (fun v s₁ => wpAny (model X.prog X.w) X.A (eval b X.env) (fun u s₂ => wpAny (model X.prog X.w) X.A (f v u) Q X.xe s₂) X.xe s₁) X.xe s := by
  refine thn (ha pins s σ H _ I h) fun v s1 zq => zq.elim fun x H1 I1 r1 q1 => ?_
  refine thn (hb pins s1 σ H1 _ I1 q1) fun u s2 zq => zq.elim fun y H2 I2 r2 q2 => ?_
  exact hf v u s2 x y H2 I2 r1 r2 q2

theorem pe_op {op : Operator} {r : R2} (ho : OpR X (binaryOp op) r) (ha : PE X a ta) (hb : PE X b tb) : PE X (.BinOp a op b pos) (tOp r ta tb) := by
  intro pins s σ H Q I h
  exact wpAny_BinOp (binT ha hb I h fun v u s2 x y H2 I2 rx ry q => ho pins s2 σ H2 x y v u Q I2 rx ry q)
theorem pe_un {op : UnaryOp} {r : V → Hp → VK → Prop} (ho : UnR X (unaryOp op) r) (ha : PE X a ta) : PE X (.UnaryOp op a pos) (tUn r ta) := by
  intro pins s σ H Q I h
  exact UnaryOp_ (thn (ha pins s σ H _ I h) fun v s1 zq => zq.elim fun x H1 I1 r1 q1 => ho pins s1 σ H1 x v Q I1 r1 q1)
theorem opI {f : Value → Value → Sem Value} {C : Int → Int → Prop} {g : Int → Int → Int}
    (rule : ∀ (i j : Int) (t u : Tok) (s : Shared) (Q : Value → Shared → Prop) (E : Value → Shared → Prop), C i j → Q (.int (g i j) s.toks) { s with toks := s.toks + 1 } → wpAny (model X.prog X.w) X.A (f (.int i t) (.int j u)) Q E s) :
    OpR X f (rI C fun i j => .int (g i j)) := by
  intro pins s σ H x y v u Q I rx ry h
  obtain ⟨i, j, rfl, rfl, hc, q⟩ := h
  obtain ⟨t, rfl⟩ := rx
  obtain ⟨t', rfl⟩ := ry
  exact rule i j t t' s _ _ hc ⟨.int (g i j), H, I.tok _, ⟨_, rfl⟩, q⟩
theorem opI0 {f : Value → Value → Sem Value} {g : Int → Int → Int}
    (rule : ∀ (i j : Int) (t u : Tok) (s : Shared) (Q : Value → Shared → Prop) (E : Value → Shared → Prop), Q (.int (g i j) s.toks) { s with toks := s.toks + 1 } → wpAny (model X.prog X.w) X.A (f (.int i t) (.int j u)) Q E s) :
    OpR X f (rI0 fun i j => .int (g i j)) := by
  intro pins s σ H x y v u Q I rx ry h
  obtain ⟨i, j, rfl, rfl, q⟩ := h
  obtain ⟨t, rfl⟩ := rx
  obtain ⟨t', rfl⟩ := ry
  exact rule i j t t' s _ _ ⟨.int (g i j), H, I.tok _, ⟨_, rfl⟩, q⟩
theorem opB0 {f : Value → Value → Sem Value} {g : Int → Int → Bool}
    (rule : ∀ (i j : Int) (t u : Tok) (s : Shared) (Q : Value → Shared → Prop) (E : Value → Shared → Prop), Q (.bool (g i j)) s → wpAny (model X.prog X.w) X.A (f (.int i t) (.int j u)) Q E s) :
    OpR X f (rI0 fun i j => .bl (g i j)) := by
  intro pins s σ H x y v u Q I rx ry h
  obtain ⟨i, j, rfl, rfl, q⟩ := h
  obtain ⟨t, rfl⟩ := rx
  obtain ⟨t', rfl⟩ := ry
  exact rule i j t t' s _ _ ⟨.bl (g i j), H, I, rfl, q⟩

def CDiv (i j : Int) : Prop := 0 < j ∧ j < 1073741824
def CPow (i j : Int) : Prop := 0 ≤ j ∧ j ≤ 1000000 ∧ i.natAbs < 2 ^ 64
def CMul (i j : Int) : Prop := (-(2 ^ 64) < i ∧ i < 2 ^ 64) ∨ (-(2 ^ 64) < j ∧ j < 2 ^ 64)
theorem CMul.ok {i j : Int} (h : CMul i j) : IntMulOk i j := by
  rcases h with ⟨h1, h2⟩ | ⟨h1, h2⟩
  · exact .of_left (intBits_le_64 h1 h2)
  · exact .of_right (intBits_le_64 h1 h2)
theorem op_add : OpR X (binaryOp .Add) (rI0 fun i j => .int (i + j)) := opI0 fun _ _ _ _ _ _ _ q => add_int q
theorem op_sub : OpR X (binaryOp .Sub) (rI0 fun i j => .int (i - j)) := opI0 fun _ _ _ _ _ _ _ q => sub_int q
theorem op_mul : OpR X (binaryOp .Mult) (rI CMul fun i j => .int (i * j)) := opI fun _ _ _ _ _ _ _ hc q => mul_int q hc.ok
theorem op_fdiv : OpR X (binaryOp .FloorDiv) (rI CDiv fun i j => .int (i / j)) := opI fun i j _ _ _ _ _ hc q => by
  have h1 : (0 : Int) < j := hc.1
  have h2 : j < 1073741824 := hc.2
  exact floordiv_int (by omega) (by rw [Int.fdiv_eq_ediv_of_nonneg i (by omega)]; exact q) (.inl (PyProof.noPylong_small (by omega)))
theorem op_mod : OpR X (binaryOp .Mod) (rI (fun _ j => 0 < j) fun i j => .int (i % j)) := opI fun i j _ _ _ _ _ hc q => by
  have h1 : (0 : Int) < j := hc
  exact mod_int' (by omega) (by rw [Int.fmod_eq_emod_of_nonneg i (by omega)]; exact q)
theorem op_pow : OpR X (binaryOp .Pow) (rI CPow fun i j => .int (i ^ j.toNat)) := opI fun _ _ _ _ _ _ _ hc q => pow_int_small hc.1 hc.2.1 hc.2.2 q
theorem unI {f : Value → Sem Value} {g : Int → Int}
    (rule : ∀ (i : Int) (t : Tok) (s : Shared) (Q : Value → Shared → Prop) (E : Value → Shared → Prop), Q (.int (g i) s.toks) { s with toks := s.toks + 1 } → wpAny (model X.prog X.w) X.A (f (.int i t)) Q E s) :
    UnR X f (rU fun i => .int (g i)) := by
  intro pins s σ H x v Q I rx h
  obtain ⟨i, rfl, q⟩ := h
  obtain ⟨t, rfl⟩ := rx
  exact rule i t s _ _ ⟨.int (g i), H, I.tok _, ⟨_, rfl⟩, q⟩
theorem un_neg : UnR X (unaryOp .USub) (rU fun i => .int (-i)) := unI fun _ _ _ _ _ q => neg_int q
inductive r_op_add_ibI (x : V) (y : V) (H : Hp) (Q : VK) : Prop
  | mk (i : _) (k : _) (h0_ : x = .int i) (h1_ : y = .bl k) (h2_ : Q (.int (i + b2i k)) H) : r_op_add_ibI x y H Q
end

def scal : V → V → Bool
  | .non, .non => true | .non, .int _ => true | .int _, .non => true | .non, .bl _ => true | .bl _, .non => true | .non, .str _ => true | .str _, .non => true
  | .int _, .int _ => true | .bl _, .bl _ => true | .str _, .str _ => true | .byt _, .byt _ => true
  | .int _, .str _ => true | .str _, .int _ => true | .bl _, .str _ => true | .str _, .bl _ => true
  | _, _ => false
def rEq : R2 := fun x y H Q => scal x y = true ∧ Q (.bl (decide (x = y))) H
def rNe : R2 := fun x y H Q => scal x y = true ∧ Q (.bl (!decide (x = y))) H

theorem dec_int {i j : Int} : decide (V.int i = V.int j) = (i == j) := by
  rw [Bool.eq_iff_iff]
  simp
theorem dec_bl {i j : Bool} : decide (V.bl i = V.bl j) = (i == j) := by
  rw [Bool.eq_iff_iff]
  simp
theorem dec_str {i j : Str} : decide (V.str i = V.str j) = (i == j) := by
  rw [Bool.eq_iff_iff]
  simp
theorem dec_byt {i j : Array UInt8} : decide (V.byt i = V.byt j) = (i.toList == j.toList) := by
  rw [Bool.eq_iff_iff]
  cases i
  cases j
  simp

section
variable {X : Cx} {a b c : Expr} {ta tb tc : TE} {pos : Pos}
theorem fin_bl {pins : List (Addr × Obj)} {σ : St} {H : Hp} {s : Shared} {Q : VK} {k k' : Bool} (I : Inv X pins σ H s) (q : Q (.bl k) H) (e : k = k') : EP X pins σ Q (.bool k') s := by
  subst e
  exact ⟨.bl k, H, I, rfl, q⟩
theorem op_eq : OpR X (compareOp .Eq) rEq := by
  intro pins s σ H x y v u Q I rx ry h
  obtain ⟨hs, q⟩ := h
  cases x with
  | non =>
    cases rx
    cases y with
    | non => cases ry; exact PySem.EqNone.eq_none_none (fin_bl I q (by simp))
    | bl j => cases ry; exact PySem.EqNone.eq_none_bool (fin_bl I q (by simp))
    | int j => obtain ⟨t', rfl⟩ := ry; exact PySem.EqNone.eq_none_int (fin_bl I q (by simp))
    | str j => obtain ⟨t', rfl⟩ := ry; exact PySem.EqNone.eq_none_str (fin_bl I q (by simp))
    | _ => exact absurd (show false = true from hs) Bool.false_ne_true
  | bl i =>
    cases rx
    cases y with
    | non => cases ry; exact PySem.EqNone.eq_bool_none (fin_bl I q (by simp))
    | bl j => cases ry; exact eq_bool (fin_bl I q dec_bl)
    | str j => obtain ⟨t', rfl⟩ := ry; exact PySem.EqMixed.eq_bool_str (fin_bl I q (by simp))
    | _ => exact absurd (show false = true from hs) Bool.false_ne_true
  | int i =>
    obtain ⟨t, rfl⟩ := rx
    cases y with
    | non => cases ry; exact PySem.EqNone.eq_int_none (fin_bl I q (by simp))
    | int j => obtain ⟨t', rfl⟩ := ry; exact eq_int (fin_bl I q dec_int)
    | str j => obtain ⟨t', rfl⟩ := ry; exact PySem.EqMixed.eq_int_str (fin_bl I q (by simp))
    | _ => exact absurd (show false = true from hs) Bool.false_ne_true
  | str i =>
    obtain ⟨t, rfl⟩ := rx
    cases y with
    | non => cases ry; exact PySem.EqNone.eq_str_none (fin_bl I q (by simp))
    | bl j => cases ry; exact PySem.EqMixed.eq_str_bool (fin_bl I q (by simp))
    | int j => obtain ⟨t', rfl⟩ := ry; exact PySem.EqMixed.eq_str_int (fin_bl I q (by simp))
    | str j => obtain ⟨t', rfl⟩ := ry; exact eq_str (fin_bl I q dec_str)
    | _ => exact absurd (show false = true from hs) Bool.false_ne_true
  | byt i =>
    obtain ⟨t, rfl⟩ := rx
    cases y with
    | byt j => obtain ⟨t', rfl⟩ := ry; exact PySem.W.eq_bytes (fin_bl I q dec_byt)
    | _ => exact absurd (show false = true from hs) Bool.false_ne_true
  | _ => cases y <;> exact absurd (show false = true from hs) Bool.false_ne_true
theorem op_ne : OpR X (compareOp .NotEq) rNe := by
  intro pins s σ H x y v u Q I rx ry h
  obtain ⟨hs, q⟩ := h
  cases x with
  | non =>
    cases rx
    cases y with
    | non => cases ry; exact PySem.EqNone.ne_none_none (fin_bl I q (by simp))
    | bl j => cases ry; exact PySem.EqNone.ne_none_bool (fin_bl I q (by simp))
    | int j => obtain ⟨t', rfl⟩ := ry; exact PySem.EqNone.ne_none_int (fin_bl I q (by simp))
    | str j => obtain ⟨t', rfl⟩ := ry; exact PySem.EqNone.ne_none_str (fin_bl I q (by simp))
    | _ => exact absurd (show false = true from hs) Bool.false_ne_true
  | bl i =>
    cases rx
    cases y with
    | non => cases ry; exact PySem.EqNone.ne_bool_none (fin_bl I q (by simp))
    | bl j => cases ry; exact ne_bool (fin_bl I q (congrArg not dec_bl))
    | str j => obtain ⟨t', rfl⟩ := ry; exact PySem.EqMixed.ne_bool_str (fin_bl I q (by simp))
    | _ => exact absurd (show false = true from hs) Bool.false_ne_true
  | int i =>
    obtain ⟨t, rfl⟩ := rx
    cases y with
    | non => cases ry; exact PySem.EqNone.ne_int_none (fin_bl I q (by simp))
    | int j => obtain ⟨t', rfl⟩ := ry; exact ne_int (fin_bl I q (congrArg not dec_int))
    | str j => obtain ⟨t', rfl⟩ := ry; exact PySem.EqMixed.ne_int_str (fin_bl I q (by simp))
    | _ => exact absurd (show false = true from hs) Bool.false_ne_true
  | str i =>
    obtain ⟨t, rfl⟩ := rx
    cases y with
    | non => cases ry; exact PySem.EqNone.ne_str_none (fin_bl I q (by simp))
    | bl j => cases ry; exact PySem.EqMixed.ne_str_bool (fin_bl I q (by simp))
    | int j => obtain ⟨t', rfl⟩ := ry; exact PySem.EqMixed.ne_str_int (fin_bl I q (by simp))
    | str j => obtain ⟨t', rfl⟩ := ry; exact ne_str (fin_bl I q (congrArg not dec_str))
    | _ => exact absurd (show false = true from hs) Bool.false_ne_true
  | byt i =>
    obtain ⟨t, rfl⟩ := rx
    cases y with
    | byt j => obtain ⟨t', rfl⟩ := ry; exact PySem.W.ne_bytes (fin_bl I q (congrArg not dec_byt))
    | _ => exact absurd (show false = true from hs) Bool.false_ne_true
  | _ => cases y <;> exact absurd (show false = true from hs) Bool.false_ne_true

theorem op_lt : OpR X (compareOp .Lt) (rI0 fun i j => .bl (decide (i < j))) := opB0 fun _ _ _ _ _ _ _ q => lt_int q
inductive r_op_leI (x : V) (y : V) (H : Hp) (Q : VK) : Prop
  | mk (i : _) (j : _) (h0_ : x = .str i) (h1_ : y = .str j) (h2_ : Q (.bl (decide (i.cps.toList < j.cps.toList))) H) : r_op_leI x y H Q
theorem op_le : OpR X (compareOp .LtE) (rI0 fun i j => .bl (decide (i ≤ j))) := opB0 fun _ _ _ _ _ _ _ q => le_int q
theorem op_gt : OpR X (compareOp .Gt) (rI0 fun i j => .bl (decide (j < i))) := opB0 fun _ _ _ _ _ _ _ q => gt_int q
theorem op_ge : OpR X (compareOp .GtE) (rI0 fun i j => .bl (decide (j ≤ i))) := opB0 fun _ _ _ _ _ _ _ q => ge_int q
inductive r_op_in_strI (x : V) (y : V) (H : Hp) (Q : VK) : Prop
  | mk (i : _) (j : _) (h0_ : x = .str i) (h1_ : y = .str j) (h2_ : Q (.bl (!(Builtin.Str.occurrences j i 0 j.length 1).isEmpty)) H) : r_op_in_strI x y H Q
theorem op_isN : OpR X (compareOp .Is) (fun x y H Q => y = .non ∧ Q (.bl (decide (x = .non))) H) := by
  intro pins s σ H x y v u Q I rx ry h
  obtain ⟨rfl, q⟩ := h
  cases ry
  refine is_none_gen (fin_bl I q ?_)
  cases x <;> first
    | (cases rx; rfl)
    | (obtain ⟨t, rfl⟩ := rx; rfl)
theorem op_notN : OpR X (compareOp .IsNot) (fun x y H Q => y = .non ∧ Q (.bl (!decide (x = .non))) H) := by
  intro pins s σ H x y v u Q I rx ry h
  obtain ⟨rfl, q⟩ := h
  cases ry
  refine isnot_none_gen (fin_bl I q ?_)
  cases x <;> first
    | (cases rx; rfl)
    | (obtain ⟨t, rfl⟩ := rx; rfl)

inductive r_op_notin_strI (x : V) (y : V) (H : Hp) (Q : VK) : Prop
  | mk (i : _) (j : _) (h0_ : x = .str i) (h1_ : y = .str j) (h2_ : Q (.bl (!(!(Builtin.Str.occurrences j i 0 j.length 1).isEmpty))) H) : r_op_notin_strI x y H Q
def isObj : HO → Bool
  | .lst _ => true
  | .ins _ _ _ => true
  | _ => false
inductive r_op_is_refI (x : V) (y : V) (H : Hp) (Q : VK) : Prop
  | mk (a : _) (b : _) (oa : _) (ob : _) (h0_ : x = .ref a) (h1_ : y = .ref b) (h2_ : H a = some oa) (h3_ : isObj oa = true) (h4_ : H b = some ob) (h5_ : isObj ob = true) (h6_ : Q (.bl (decide (a = b))) H) : r_op_is_refI x y H Q
inductive r_op_isnot_refI (x : V) (y : V) (H : Hp) (Q : VK) : Prop
  | mk (a : _) (b : _) (oa : _) (ob : _) (h0_ : x = .ref a) (h1_ : y = .ref b) (h2_ : H a = some oa) (h3_ : isObj oa = true) (h4_ : H b = some ob) (h5_ : isObj ob = true) (h6_ : Q (.bl (!decide (a = b))) H) : r_op_isnot_refI x y H Q
theorem nomark (b : Expr) {op : CmpOp} (h : op ≠ .In := by decide) (h2 : op ≠ .NotIn := by decide) : behindInMarks op b = false := by
  have e1 : (op == CmpOp.In) = false := by cases op <;> first | rfl | exact absurd rfl h
  have e2 : (op == CmpOp.NotIn) = false := by cases op <;> first | rfl | exact absurd rfl h2
  cases b <;> simp [behindInMarks, e1, e2]
theorem pe_cmpR {op : CmpOp} {r : R2} (ho : OpR X (compareOp op) r) (ha : PE X a ta) (hb : PE X b tb) (hm : behindInMarks op b = false) : PE X (.Compare a [op] [b] pos) (tOp r ta tb) := by
  intro pins s σ H Q I h
  exact wpAny_Compare1 (binT ha hb I h fun v u s2 x y H2 I2 rx ry q => ho pins s2 σ H2 x y v u Q I2 rx ry q) hm
def tTest (t : TE) : TT := fun σ H Q => t σ H fun x H' => BlQ x H' Q
theorem pt_cmpR {op : CmpOp} {r : R2} (ho : OpR X (compareOp op) r) (ha : PE X a ta) (hb : PE X b tb) (hm : behindInMarks op b = false) : PT X (.Compare a [op] [b] pos) (tTest (tOp r ta tb)) := by
  intro pins s σ H Q I h
  refine wpAny_isTrue_Compare1 (thn (ha pins s σ H _ I h) fun v s1 zq => zq.elim fun x H1 I1 r1 q1 => thn (hb pins s1 σ H1 _ I1 q1) fun u s2 ⟨y, H2, I2, r2, q2⟩ =>
    thn (ho pins s2 σ H2 x y v u _ I2 r1 r2 q2) fun c s3 ⟨z, H3, I3, r3, k, e, q3⟩ => ?_) hm
  subst e
  cases r3
  exact wpAny_truthy_bool ⟨H3, I3, q3⟩
def tChain (r r' : R2) (ta tb tc : TE) : TE := fun σ H Q => ta σ H fun x H1 => tb σ H1 fun y H2 => r x y H2 fun z H3 => ∃ k, z = .bl k ∧
  (if k = true then tc σ H3 fun w' H4 => r' y w' H4 Q else Q (.bl false) H3)
theorem pe_chain {op op' : CmpOp} {r r' : R2} (ho : OpR X (compareOp op) r) (ho' : OpR X (compareOp op') r') (ha : PE X a ta) (hb : PE X b tb) (hc : PE X c tc)
    (hm : lastMarks [op, op'] [b, c] = false := by with_unfolding_all rfl) : PE X (.Compare a [op, op'] [b, c] pos) (tChain r r' ta tb tc) := by
  intro pins s σ H Q I h
  refine Compare_chain (thn (ha pins s σ H _ I h) fun v s1 zq => zq.elim fun x H1 I1 r1 q1 => chain_link (thn (hb pins s1 σ H1 _ I1 q1) fun u s2 ⟨y, H2, I2, r2, q2⟩ =>
    thn (ho pins s2 σ H2 x y v u _ I2 r1 r2 q2) fun d s3 ⟨z, H3, I3, r3, k, e, q3⟩ => ?_)) hm
  subst e
  cases r3
  refine wpAny_truthy_bool ?_
  cases k with
  | false => exact ite_ff ⟨.bl false, H3, I3, rfl, q3⟩
  | true => exact ite_tt (chain_last (thn (hc pins s3 σ H3 _ I3 q3) fun w' s4 zq => zq.elim fun z' H4 I4 r4 q4 => ho' pins s4 σ H4 y z' u w' Q I4 r2 r4 q4))
def TruV (K : PySem.W.Frag) (x : V) (H : Hp) (k : Bool) : Prop :=
  match x with
  | .non => k = false
  | .bl b => k = b
  | .int i => k = (i != 0)
  | .str y => y.length ≤ sizeLine ∧ k = ((y.length : Int) != 0)
  | .byt y => y.size ≤ sizeLine ∧ k = ((y.size : Int) != 0)
  | .ref p => (∃ xs, SqL K H p xs ∧ k = !xs.isEmpty) ∨ (∃ xs, SqT K H p xs ∧ k = !xs.isEmpty) ∨ ∃ kvs, H p = some (.dK kvs) ∧ k = !kvs.isEmpty
  | _ => False
theorem isEmpty_kv {κ : Type} {kvs : List (κ × V)} {vs : List (κ × Value)} (r : KV kvs vs) : (!vs.isEmpty) = !kvs.isEmpty := by
  cases r <;> rfl
theorem isEmpty_of {xs : List V} {its : List Value} (r : Vals xs its) : (!its.toArray.isEmpty) = !xs.isEmpty := by
  cases r <;> simp
theorem line63 : (sizeLine : Nat) < 2 ^ 63 := by rw [sizeLine_eq]; decide
theorem tru_ok : TruR X (fun x H Q => ∃ k, TruV X.K x H k ∧ Q k H) := by
  intro pins s σ H x v Q I rx h
  obtain ⟨k, e, q⟩ := h
  have hl := line63
  have hs : sizeLine = 16777216 := sizeLine_eq
  cases x with
  | non =>
    cases rx
    have e' : k = false := e
    subst e'
    exact truthy_none ⟨H, I, q⟩
  | bl b =>
    cases rx
    have e' : k = b := e
    subst e'
    exact wpAny_truthy_bool ⟨H, I, q⟩
  | int i =>
    obtain ⟨t, rfl⟩ := rx
    have e' : k = (i != 0) := e
    subst e'
    exact PySem.P.truthy_int ⟨H, I, q⟩
  | str y =>
    obtain ⟨t, rfl⟩ := rx
    obtain ⟨hy, e'⟩ : y.length ≤ sizeLine ∧ k = ((y.length : Int) != 0) := e
    subst e'
    exact PySem.P.truthy_str (by omega) ⟨H, I.tok _, q⟩
  | byt y =>
    obtain ⟨t, rfl⟩ := rx
    obtain ⟨hy, e'⟩ : y.size ≤ sizeLine ∧ k = ((y.size : Int) != 0) := e
    subst e'
    exact PySem.W.truthy_bytes (by omega) ⟨H, I.tok _, q⟩
  | ref p =>
    cases rx
    have e' : (∃ xs, SqL X.K H p xs ∧ k = !xs.isEmpty) ∨ (∃ xs, SqT X.K H p xs ∧ k = !xs.isEmpty) ∨ ∃ kvs, H p = some (.dK kvs) ∧ k = !kvs.isEmpty := e
    rcases e' with ⟨xs, hx, e'⟩ | ⟨xs, hx, e'⟩ | ⟨kvs, hx, e'⟩
    · subst e'
      obtain ⟨its, r, pl, hz⟩ := I.list hx
      have hlen := r.length
      exact wpAny_truthy_list pl.isList (by simp only [List.size_toArray]; omega) ⟨H, I.tok _, by rw [isEmpty_of r]; exact q⟩
    · subst e'
      obtain ⟨its, r, pl, hz⟩ := I.tuple hx
      have hlen := r.length
      exact truthy_tuple pl (by simp only [List.size_toArray]; omega) ⟨H, I.tok _, by rw [isEmpty_of r]; exact q⟩
    · subst e'
      obtain ⟨hz, hS, vs, r, m⟩ : kvs.length ≤ sizeLine ∧ (p == sysModules) = false ∧ ∃ vs, KV kvs vs ∧ s.heap.DictOf (mixKind X.prog X.w) p vs := I.hok p _ hx
      have hlen : kvs.length = vs.length := Paired.length r
      exact wpAny_truthy_dict hS m (by omega) ⟨H, I.tok _, by rw [isEmpty_kv r]; exact q⟩
  | _ => exact (show False from e).elim
theorem pt_truth (ha : PE X a ta) (he : ∀ whole, isTrue a X.env whole = (do let v ← whole; standAt a.pos; holding [v] (truthy v))) :
    PT X a (fun σ H Q => ta σ H fun x H' => ∃ k, TruV X.K x H' k ∧ Q k H') := by
  intro pins s σ H Q I h
  exact isTrue_plain (thn (ha pins s σ H _ I h) fun v s1 zq => zq.elim fun x H1 I1 r1 q1 => tru_ok pins s1 σ H1 x v Q I1 r1 q1) (he _)

inductive r_op_add_strI (x : V) (y : V) (H : Hp) (Q : VK) : Prop
  | mk (i : _) (j : _) (h0_ : x = .str i) (h1_ : y = .str j) (h2_ : i.length + j.length ≤ sizeLine) (h3_ : Q (.str (i ++ j)) H) : r_op_add_strI x y H Q
def r_op_add_str : V → V → Hp → VK → Prop := fun x y H Q => r_op_add_strI x y H Q
theorem op_add_str : OpR X (binaryOp .Add) r_op_add_str := by
  intro pins s σ H x y v u Q I rx ry h
  obtain ⟨i, j, rfl, rfl, hz, q⟩ := h
  obtain ⟨t, rfl⟩ := rx
  obtain ⟨t', rfl⟩ := ry
  exact add_str (fun t' tk => ⟨.str (i ++ j), H, I.tok _, ⟨_, rfl⟩, q⟩) hz
inductive r_iop_add_strI (x : V) (y : V) (H : Hp) (Q : VK) : Prop
  | mk (i : _) (j : _) (h0_ : x = .str i) (h1_ : y = .str j) (h2_ : i.length + j.length ≤ sizeLine) (h3_ : Q (.str (i ++ j)) H) : r_iop_add_strI x y H Q
inductive r_op_add_bytI (x : V) (y : V) (H : Hp) (Q : VK) : Prop
  | mk (i : _) (j : _) (h0_ : x = .byt i) (h1_ : y = .byt j) (h2_ : i.size + j.size ≤ 16777216) (h3_ : Q (.byt (i ++ j)) H) : r_op_add_bytI x y H Q
theorem vals1 {x : V} {us : List Value} (r : Vals [x] us) : ∃ u, us = [u] ∧ RelV x u := by
  cases r with
  | cons r1 r2 => cases r2; exact ⟨_, rfl, r1⟩
theorem vals2 {x y : V} {us : List Value} (r : Vals [x, y] us) : ∃ u w', us = [u, w'] ∧ RelV x u ∧ RelV y w' := by
  cases r with
  | cons r1 r2 =>
    cases r2 with
    | cons r3 r4 => cases r4; exact ⟨_, _, rfl, r1, r3⟩
inductive r_call_absI (xs : List V) (H : Hp) (Q : VK) : Prop
  | mk (i : _) (h0_ : xs = [.int i]) (h1_ : Q (.int (if i < 0 then -i else i)) H) : r_call_absI xs H Q
inductive r_call_max2I (xs : List V) (H : Hp) (Q : VK) : Prop
  | mk (i : _) (j : _) (h0_ : xs = [.int i, .int j]) (h1_ : Q (.int (if j > i then j else i)) H) : r_call_max2I xs H Q
def r_call_max2 : List V → Hp → VK → Prop := fun xs H Q => r_call_max2I xs H Q
theorem call_max2 (hc : X.calm = true) : CallR X (.builtin "max") r_call_max2 := by
  intro pins s σ H xs us Q I r h
  obtain ⟨i, j, rfl, q⟩ := h
  obtain ⟨u, w', rfl, ⟨t, rfl⟩, ⟨t', rfl⟩⟩ := vals2 r
  refine max_two_ints (I.ok.hd hc) fun h' tk k => ⟨_, H, I.kept k, ?_, q⟩
  by_cases hj : j > i
  · rw [if_pos hj, if_pos hj]; exact ⟨_, rfl⟩
  · rw [if_neg hj, if_neg hj]; exact ⟨_, rfl⟩
inductive r_call_min2I (xs : List V) (H : Hp) (Q : VK) : Prop
  | mk (i : _) (j : _) (h0_ : xs = [.int i, .int j]) (h1_ : Q (.int (if j < i then j else i)) H) : r_call_min2I xs H Q
def r_call_min2 : List V → Hp → VK → Prop := fun xs H Q => r_call_min2I xs H Q
theorem call_min2 (hc : X.calm = true) : CallR X (.builtin "min") r_call_min2 := by
  intro pins s σ H xs us Q I r h
  obtain ⟨i, j, rfl, q⟩ := h
  obtain ⟨u, w', rfl, ⟨t, rfl⟩, ⟨t', rfl⟩⟩ := vals2 r
  refine min_two_ints (I.ok.hd hc) fun h' tk k => ⟨_, H, I.kept k, ?_, q⟩
  by_cases hj : j < i
  · rw [if_pos hj, if_pos hj]; exact ⟨_, rfl⟩
  · rw [if_neg hj, if_neg hj]; exact ⟨_, rfl⟩
theorem call_int1 : CallR X (.type "int") (fun xs H Q => (∃ i, xs = [.int i] ∧ Q (.int i) H) ∨ ∃ k, xs = [.bl k] ∧ Q (.int (if k then 1 else 0)) H) := by
  intro pins s σ H xs us Q I r h
  rcases h with ⟨i, rfl, q⟩ | ⟨k, rfl, q⟩
  · obtain ⟨u, rfl, t, rfl⟩ := vals1 r
    exact call_int_int ⟨.int i, H, I, ⟨_, rfl⟩, q⟩
  · obtain ⟨u, rfl, r1⟩ := vals1 r
    cases r1
    exact call_int_bool ⟨.int (if k then 1 else 0), H, I.tok _, ⟨_, rfl⟩, q⟩
inductive r_call_str_intI (xs : List V) (H : Hp) (Q : VK) : Prop
  | mk (i : _) (h0_ : xs = [.int i]) (h1_ : i.natAbs.log2 < 1920) (h2_ : Q (.str (toString i)) H) : r_call_str_intI xs H Q
inductive r_call_ordI (xs : List V) (H : Hp) (Q : VK) : Prop
  | mk (x : _) (h0_ : xs = [.str x]) (h1_ : x.length = 1) (h2_ : Q (.int (x.cps.getD 0 0 : Nat)) H) : r_call_ordI xs H Q
inductive r_call_chrI (xs : List V) (H : Hp) (Q : VK) : Prop
  | mk (i : _) (h0_ : xs = [.int i]) (h1_ : 0 ≤ i) (h2_ : i ≤ 1114111) (h3_ : Q (.str ⟨#[i.toNat]⟩) H) : r_call_chrI xs H Q
def LenV (K : PySem.W.Frag) (x : V) (H : Hp) (n : Nat) : Prop :=
  match x with
  | .str y => y.length ≤ sizeLine ∧ n = y.length
  | .byt y => y.size ≤ sizeLine ∧ n = y.size
  | .ref p => (∃ xs, SqL K H p xs ∧ n = xs.length) ∨ ∃ xs, SqT K H p xs ∧ n = xs.length
  | _ => False
inductive r_call_lenI (K : PySem.W.Frag) (xs : List V) (H : Hp) (Q : VK) : Prop
  | mk (x : _) (n : _) (h0_ : xs = [x]) (h1_ : LenV K x H n) (h2_ : Q (.int n) H) : r_call_lenI K xs H Q
inductive r_call_divmodI (xs : List V) (H : Hp) (Q : VK) : Prop
  | mk (i : _) (j : _) (h0_ : xs = [.int i, .int j]) (h1_ : CDiv i j) (h2_ : ∀ p, H p = none → Q (.ref p) (upd H p (.tup [.int (i / j), .int (i % j)]))) : r_call_divmodI xs H Q
end
end L2

namespace L2
open PySem PySem.Spec PyProof.Rows

structure ObjM (h : Heap) (x dx C : Addr) (mA : Str → Option Value) : Prop where
  obj : h.get? x = some (PySem.W.instObj C dx)
  ns : h.Ns1 dx mA
  ne : dx ≠ x

theorem lookIn_ns {h : Heap} {dx : Addr} {mA : Str → Option Value} (n : h.Ns1 dx mA) : ∃ od, h.get? dx = some od ∧ ∀ name, PySem.W.lookIn name od = some (mA name) := by
  obtain ⟨o, es, ep, ho, hd, hk, _, hm⟩ := n
  refine ⟨o, ho, fun name => ?_⟩
  have e := hm name
  unfold nsFind findBy at e
  rw [← Array.find?_toList] at e
  unfold PySem.W.lookIn
  rw [hd]
  dsimp only
  split
  · rename_i y q
    rw [q] at e
    exact congrArg some e
  · rename_i q
    rw [q] at e
    have a : es.toList.any (·.refKey) = false := by
      rw [List.any_eq_false]
      intro y hy
      obtain ⟨z, t, hkey⟩ := hk y (Array.mem_toList_iff.mp hy)
      simp [DictEntry.refKey, hkey]
    have a' : ¬ es.toList.any (·.refKey) = true := by rw [a]; exact Bool.false_ne_true
    rw [if_neg a']
    exact congrArg some e

theorem ObjM.look {h : Heap} {x dx C : Addr} {mA : Str → Option Value} (I : ObjM h x dx C mA) : ∃ od, PySem.W.InstAt h x (PySem.W.instObj C dx) C (some od) ∧ ∀ name, PySem.W.lookIn name od = some (mA name) :=
  let ⟨od, ho, hl⟩ := lookIn_ns I.ns
  ⟨od, ⟨I.obj, rfl, rfl, ho⟩, hl⟩

section
variable {prog : Program} {w : World} {A : Around} {E : Value → Shared → Prop} {s : Shared} {K : PySem.W.Frag} {x dx C f : Addr} {mA : Str → Option Value} {name : Str} {v : Value}

end

theorem RelO.some_of {v : V} {o : Option Value} (r : RelO (some v) o) : ∃ u, o = some u ∧ RelV v u := by
  cases o with
  | none => exact (show False from r).elim
  | some u => exact ⟨u, rfl, r⟩
section
variable {P : Program} {w : World} {H H' : Hp} {h h' : Heap} {a C dx : Addr} {fs fs' : List (Str × V)}
theorem ins_get (hok : HOk P w H h) (e : H a = some (.ins C dx fs)) : ∃ mA, ObjM h a dx C mA ∧ (∀ f, RelO (fs.lookup f) (mA f)) ∧ PySem.Within mA (fs.map (·.1)) ∧ fs.length ≤ 1000 ∧ H dx = some (.own a) := by
  obtain ⟨d, z, ne, ob, mA, n, r, q⟩ := (show ObjOk P w H h a (.ins C dx fs) from hok a _ e)
  exact ⟨mA, ⟨ob, n, ne⟩, r, q, z, d⟩
end

structure Cls (K : PySem.W.Frag) (C : Addr) : Prop where
  pg : PySem.W.plainGet K C Str.empty = true
  hd : PySem.W.hasDictIn K C = true
  po : PySem.W.plainOver K C = true
  sa : PySem.W.findIn K (.ref C) "__setattr__" = some (some (.builtin "object.__setattr__"))
theorem Cls.get {K : PySem.W.Frag} {C : Addr} (c : Cls K C) (f : Str) : PySem.W.plainGet K C f = true := c.pg
structure Con (K : PySem.W.Frag) (C : Addr) (f : Str) (v : V) (u : Value) : Prop where
  at_ : PySem.W.findIn K (.ref C) f = some (some u)
  rel : RelV v u
  get : PySem.W.specialIn K u "__get__" = some none
  cp : PySem.W.copiedNames.contains f = false
structure Meth (K : PySem.W.Frag) (C : Addr) (m : Str) (f : Addr) : Prop where
  at_ : PySem.W.findIn K (.ref C) m = some (some (.ref f))
  fn : PySem.W.isFn K (.ref f) = true
  kp : PySem.W.keepIn K (.ref f) = true

section
variable {X : Cx} {pins : List (Addr × Obj)} {σ : St} {H : Hp} {s : Shared} {a C dx : Addr} {fs : List (Str × V)} {f : Str} {v : V} {A : Around} {E : Value → Shared → Prop}

end

section
variable {X : Cx} {o e value : Expr} {f : Str} {pos pos' tpos : Pos} {ta tv : TE}
inductive rAddI (x : V) (y : V) (H : Hp) (Q : VK) : Prop
  | mk (i : _) (j : _) (x0 : x = .int i) (x1 : y = .int j) (x2 : Q (.int (i + j)) H) : rAddI  x y H Q
inductive rSubI (x : V) (y : V) (H : Hp) (Q : VK) : Prop
  | mk (i : _) (j : _) (x0 : x = .int i) (x1 : y = .int j) (x2 : Q (.int (i - j)) H) : rSubI  x y H Q
end

section
variable {X : Cx} {pins : List (Addr × Obj)} {σ : St} {H : Hp} {s : Shared} {A : Around} {E : Value → Shared → Prop} {Q : Value → Shared → Prop} {c : Value} {b : Bool}
inductive TyOf (K : PySem.W.Frag) (H : Hp) : V → Value → Prop where
  | non : TyOf K H .non (.type "NoneType")
  | bl (x : Bool) : TyOf K H (.bl x) (.type "bool")
  | int (i : Int) : TyOf K H (.int i) (.type "int")
  | str (x : Str) : TyOf K H (.str x) (.type "str")
  | flt (x : UInt64) : TyOf K H (.flt x) (.type "float")
  | lst {a : Addr} {xs : List V} (e : H a = some (.lst xs)) : TyOf K H (.ref a) (.type "list")
  | frz {a : Addr} {o : Obj} {xs : List V} (e : H a = some (.frz o (.lst xs))) : TyOf K H (.ref a) (.type "list")
  | tup {a : Addr} {xs : List V} (e : H a = some (.tup xs)) : TyOf K H (.ref a) (.type "tuple")
  | dK {a : Addr} {kvs : List (Key × V)} (e : H a = some (.dK kvs)) : TyOf K H (.ref a) (.type "dict")
  | dT {a : Addr} {kvs : List (List Key × V)} (e : H a = some (.dT kvs)) : TyOf K H (.ref a) (.type "dict")
  | ins {a C dx : Addr} {fs : List (Str × V)} (e : H a = some (.ins C dx fs)) (cl : Cls K C) (ha : PySem.W.findIn K (.ref C) "__class__" = some (some (.builtin "object.__class__")))
      (hn : PySem.W.specialIn K (.builtin "object.__class__") "__get__" = some (some (.builtin "getset_descriptor.__get__"))) (htk : PySem.W.takesIn K (.builtin "object.__class__") = some true)
      (hm : PySem.W.mroIn K C (.type "object") = some true) : TyOf K H (.ref a) (.ref C)
theorem isinst_ok {x : V} {u t : Value} (I : Inv X pins σ H s) (rx : RelV x u) (ty : TyOf X.K H x t) (e : PySem.W.kitOne X.K t c = some b) (h : ∀ tk, Q (.bool b) { s with toks := tk }) :
    wpAny (model X.prog X.w) A (call (.builtin "isinstance") [u, c]) Q E s := by
  cases ty with
  | non => cases (show u = Value.none from rx); exact PySem.W.kia_one PySem.W.kitx_none I.kIn True.intro e (fun z => nomatch z) h
  | bl y => cases (show u = Value.bool y from rx); exact PySem.W.kia_one PySem.W.kitx_bool I.kIn True.intro e (fun z => nomatch z) h
  | int i => obtain ⟨t, q⟩ := (show ∃ t, u = Value.int i t from rx); cases q; exact PySem.W.kia_one PySem.W.kitx_int I.kIn True.intro e (fun z => nomatch z) h
  | str y => obtain ⟨t, q⟩ := (show ∃ t, u = Value.str y t from rx); cases q; exact PySem.W.kia_one PySem.W.kitx_str I.kIn True.intro e (fun z => nomatch z) h
  | flt y => obtain ⟨t, q⟩ := (show ∃ t, u = Value.float y t from rx); cases q; exact PySem.W.kia_one PySem.W.kitx_float I.kIn True.intro e (fun z => nomatch z) h
  | @lst a xs ea =>
    cases (show u = Value.ref a from rx)
    obtain ⟨_, _, n, _, h1⟩ := (show ObjOk X.prog X.w H s.heap a (.lst xs) from I.hok a _ ea)
    exact PySem.W.kia_one PySem.W.kitx_list I.kIn ⟨_, h1, rfl⟩ e (fun z => nomatch z) h
  | @frz a ob xs ea =>
    cases (show u = Value.ref a from rx)
    obtain ⟨_, _, _, n, _, h1⟩ := (show ObjOk X.prog X.w H s.heap a (.frz ob (.lst xs)) from I.hok a _ ea)
    exact PySem.W.kia_one PySem.W.kitx_list I.kIn ⟨_, h1, rfl⟩ e (fun z => nomatch z) h
  | @tup a xs ea =>
    cases (show u = Value.ref a from rx)
    obtain ⟨_, _, _, p⟩ := (show ObjOk X.prog X.w H s.heap a (.tup xs) from I.hok a _ ea)
    obtain ⟨o, h1, h2, _⟩ := p
    exact PySem.W.kia_one PySem.W.kitx_tuple I.kIn ⟨o, h1, h2⟩ e (fun z => nomatch z) h
  | @dK a kvs ea =>
    cases (show u = Value.ref a from rx)
    obtain ⟨_, _, vs, _, p⟩ := (show ObjOk X.prog X.w H s.heap a (.dK kvs) from I.hok a _ ea)
    obtain ⟨o, es, ep, h1, h2, _⟩ := p
    exact PySem.W.kia_one PySem.W.kitx_dict I.kIn ⟨o, h1, h2.1⟩ e (fun z => nomatch z) h
  | @dT a kvs ea =>
    cases (show u = Value.ref a from rx)
    obtain ⟨_, _, xs, _, o, es, ep, h1, h2, _⟩ := (show ObjOk X.prog X.w H s.heap a (.dT kvs) from I.hok a _ ea)
    exact PySem.W.kia_one PySem.W.kitx_dict I.kIn ⟨o, h1, h2.1⟩ e (fun z => nomatch z) h
  | @ins a C dx fs ea cl ha hn htk hm =>
    cases (show u = Value.ref a from rx)
    obtain ⟨mA, O, _⟩ := ins_get I.hok ea
    obtain ⟨od, J, _⟩ := O.look
    exact PySem.W.kia_one (PySem.W.kitx_own (cl.get _) cl.hd ha hn htk hm) I.kIn J e (fun z => nomatch z) h
end
end L2

namespace L2
open PySem PySem.Spec PyProof.Rows

structure Room (k : Nat) (A : Around) : Prop where
  hd : A.handled = none
  dp : A.depth + 3 * k + 5 < recursionLimit
  un : A.units + 16 * k + 200 < cLine
theorem Room.mono {j k : Nat} {A : Around} (r : Room k A) (h : j ≤ k) : Room j A := ⟨r.hd, by have := r.dp; omega, by have := r.un; omega⟩
theorem Room.deeper {k : Nat} {A : Around} (r : Room (k + 1) A) (env : Env) : Room k (A.deeper env) :=
  ⟨r.hd, by have := r.dp; show A.depth + 1 + 3 * k + 5 < _; omega, by have := r.un; show A.units + 3 + 16 * k + 200 < _; omega⟩
theorem Room.depth {k : Nat} {A : Around} (r : Room k A) : A.depth < recursionLimit := by have := r.dp; omega
theorem Room.units {k : Nat} {A : Around} (r : Room k A) : A.units + 64 < cLine := by have := r.un; omega
theorem Room.units0 {k : Nat} {A : Around} (r : Room k A) : A.units < cLine := by have := r.un; omega

def tNil : TA := fun _ H Q => Q [] H
def tCons (ta : TE) (tr : TA) : TA := fun σ H Q => ta σ H fun x H1 => tr σ H1 fun xs H2 => Q (x :: xs) H2
section
variable {X : Cx} {e : Expr} {es : List Expr} {te : TE} {t : TA} {pos : Pos}
theorem pa_nil : PA X [] tNil := fun _ _ _ _ H Q I h => Calls.spliced_nil ⟨[], H, I, .nil, h⟩
theorem pa_cons (ha : PE X e te) (hr : PA X es t) (hs : starEach (e :: es) X.env = (false, eval e X.env) :: starEach es X.env := by rfl) : PA X (e :: es) (tCons te t) := by
  intro pos pins s σ H Q I h
  rw [hs]
  show wpAny _ _ (spliced ((false, eval e X.env) :: backTo pos (starEach es X.env))) _ _ s
  refine Calls.spliced_cons (thn (ha pins s σ H _ I h) fun u s1 zq => zq.elim fun x H1 I1 r1 q1 => ?_)
  exact thn (hr pos pins s1 σ H1 _ I1 q1) fun us s2 zq => zq.elim fun xs H2 I2 r2 q2 => ⟨x :: xs, H2, I2, .cons r1 r2, q2⟩

def tTup (t : TA) : TE := fun σ H Q => t σ H fun xs H1 => xs.length ≤ sizeLine ∧ ∀ p, H1 p = none → Q (.ref p) (upd H1 p (.tup xs))
def tLst (t : TA) : TE := fun σ H Q => t σ H fun xs H1 => xs.length ≤ sizeLine ∧ ∀ p, H1 p = none → Q (.ref p) (upd H1 p (.lst xs))
theorem pe_tup {x1} (h : PA X es t) : PE X (.Tuple es x1 pos) (tTup t) := by
  intro pins s σ H Q I hq
  refine wpAny_Tuple_spliced (thn (h pos pins s σ H _ I hq) fun us s1 ⟨xs, H1, I1, r, z, q⟩ => ⟨by rw [← r.length]; exact z, ?_⟩)
  have hf : H1 s1.heap.objs.size = none := I1.hok.fresh (Nat.le_refl _)
  refine ⟨.ref s1.heap.objs.size, upd H1 s1.heap.objs.size (.tup xs), I1.laid (t' := s1.toks) (fun b u e => Heap.get?_push_of_some _ e) (Nat.le_refl _) ?_, rfl, q _ hf⟩
  exact ⟨z, us, r, ⟨_, Heap.get?_push_size _ rfl, rfl, _, rfl⟩⟩
theorem pe_lst (h : PA X es t) : PE X (.List es pos) (tLst t) := by
  intro pins s σ H Q I hq
  refine wpAny_List_spliced (thn (h pos pins s σ H _ I hq) fun us s1 ⟨xs, H1, I1, r, z, q⟩ => ⟨by rw [← r.length]; exact z, ?_⟩)
  have hf : H1 s1.heap.objs.size = none := I1.hok.fresh (Nat.le_refl _)
  refine ⟨.ref s1.heap.objs.size, upd H1 s1.heap.objs.size (.lst xs), I1.laid (t' := s1.toks) (fun b u e => Heap.get?_push_of_some _ e) (Nat.le_refl _) ?_, rfl, q _ hf⟩
  exact ⟨z, us, 0, r, Heap.get?_push_size _ rfl⟩
end

abbrev Sp := List V → Hp → VK → XK → Prop
abbrev CXT := List Env → Hp → Shared → XK → Value → Shared → Prop

structure Env0 (P : Program) (w : World) (K : PySem.W.Frag) (mg : Str → Option Value) (base : Heap) (A : Around) (outer : List Env) (s : Shared) (H : Hp) : Prop where
  frames : A.frames = some outer
  mod : Mod K mg base
  bs : ∀ b o, base.get? b = some o → s.heap.get? b = some o ∧ H b = none
  bsz : base.objs.size ≤ s.heap.objs.size
  funs : s.heap.FunFrames base outer
  frf : ∀ b ∈ frs outer, H b = none
  hok : HOk P w H s.heap
  bare : AllBare s.gens
inductive CE (outer : List Env) (P : Program) (w : World) (H : Hp) (s : Shared) (Q : VK) (u : Value) (s' : Shared) : Prop
  | mk (v : V) (H' : Hp) (os : s'.os = s.os) (bare : AllBare s'.gens) (un : Un (frs outer) [] H H' s.heap s'.heap) (hok : HOk P w H' s'.heap) (r : RelV v u) (q : Q v H') : CE outer P w H s Q u s'
def CR (CX : CXT) (outer : List Env) (P : Program) (w : World) (H : Hp) (s : Shared) (Q : VK) (E : XK) (r : Result) (s' : Shared) : Prop :=
  match r with
  | .ok (.ret u) => CE outer P w H s Q u s'
  | .ok _ => False
  | .error e => CX outer H s E e s'
structure FnOk (P : Program) (w : World) (K : PySem.W.Frag) (mg : Str → Option Value) (base : Heap) (CX : CXT) (k : Nat) (f : Addr) (fd : FuncData) (ps : List Str) (sp : Sp) : Prop where
  len : ∀ vs H Q E, sp vs H Q E → vs.length = ps.length
  run : ∀ (A : Around) (outer : List Env) (s : Shared) (H : Hp) (args : Args) (us : List Value) (vs : List V) (Q : VK) (E : XK), Room k A → Env0 P w K mg base A outer s H → BindsTo s fd args (ps.zip us) → Vals vs us → sp vs H Q E →
    codeAny (model P w) A (.call (.ref f) args) (CR CX outer P w H s Q E) s
theorem FnOk.imp {P : Program} {w : World} {K : PySem.W.Frag} {mg : Str → Option Value} {base : Heap} {CX : CXT} {k : Nat} {f : Addr} {fd : FuncData} {ps : List Str} {sp sp' : Sp} (F : FnOk P w K mg base CX k f fd ps sp)
    (h : ∀ vs H Q E, sp' vs H Q E → sp vs H Q E) : FnOk P w K mg base CX k f fd ps sp' :=
  ⟨fun vs H Q E q => F.len vs H Q E (h _ _ _ _ q), fun A outer s H args us vs Q E hr he hb hv hs => F.run A outer s H args us vs Q E hr he hb hv (h _ _ _ _ hs)⟩

section
variable {X : Cx} {pins : List (Addr × Obj)} {σ : St} {H : Hp} {s s' : Shared}
theorem Inv.env0 (I : Inv X pins σ H s) : Env0 X.prog X.w X.K X.mg X.base X.A X.stack s H :=
  ⟨I.ok.frames, I.ok.mod, I.bs, Nat.le_trans I.ok.bsz I.sz, I.stack, I.stkFree, I.hok, I.bare⟩
theorem Inv.after {Q : VK} {u : Value} (I : Inv X pins σ H s) (h : CE X.stack X.prog X.w H s Q u s') : EP X pins σ Q u s' := by
  obtain ⟨v, H', os, bare, un, hok, r, q⟩ := h
  obtain ⟨hh, g, d, t, os'⟩ := s'
  obtain rfl : os' = s.os := os
  exact ⟨v, H', I.call (h' := hh) (g' := g) (d' := d) (t' := t) (ch := []) un hok bare (fun b z => absurd z (by simp)), r, q⟩
end

def tCall (sp : Sp) (dvs : List V) (E : XK) (t : TA) : TE := fun σ H Q => t σ H fun vs H1 => sp (vs ++ dvs) H1 Q E
def Binds (K : PySem.W.Frag) (fd : FuncData) (ps : List Str) (ds : List Value) : Prop :=
  ∀ (s : Shared) (us : List Value), K.In s.heap → (us ++ ds).length = ps.length → BindsTo s fd ⟨us, []⟩ (ps.zip (us ++ ds))
theorem Binds.all {K : PySem.W.Frag} {fd : FuncData} {ps : List Str} (h : ∀ us : List Value, us.length = ps.length → bindArgs fd ⟨us, []⟩ = pure (ps.zip us)) : Binds K fd ps [] := fun s us _ hl => by
  rw [List.append_nil] at hl ⊢
  exact .of_eq (h us hl)

def Passes (CX : CXT) (X : Cx) (E : XK) : Prop := ∀ (pins : List (Addr × Obj)) (σ : St) (H : Hp) (s : Shared) (e : Value) (s' : Shared), Inv X pins σ H s → CX X.stack H s E e s' → X.xe e s'

section
variable {X : Cx} {CX : CXT} {k : Nat} {f C : Addr} {fd : FuncData} {ps : List Str} {sp : Sp} {dvs : List V} {ds : List Value} {E : XK} {x m : Str} {p pos apos : Pos} {e o : Expr} {es : List Expr} {ta : TE} {t : TA}

theorem run_fn {pins : List (Addr × Obj)} {σ : St} {H : Hp} {s : Shared} {Q : VK} {us : List Value} {vs : List V} (F : FnOk X.prog X.w X.K X.mg X.base CX k f fd ps sp) (hr : Room k X.A) (hb : Binds X.K fd ps ds) (hd : Vals dvs ds) (hx : Passes CX X E)
    (I : Inv X pins σ H s) (r : Vals vs us) (h : sp (vs ++ dvs) H Q E) : wpAny (model X.prog X.w) X.A (call (.ref f) us) (EP X pins σ Q) X.xe s := by
  have r2 : Vals (vs ++ dvs) (us ++ ds) := r.append hd
  have hl : (us ++ ds).length = ps.length := by rw [← r2.length]; exact F.len _ _ _ _ h
  refine wpAny_call (codeAny_mono (F.run X.A X.stack s H ⟨us, []⟩ (us ++ ds) (vs ++ dvs) Q E hr I.env0 (hb s us I.kIn hl) r2 h) fun r s' hq => ?_)
  cases r with
  | error e => exact hx pins σ H s e s' I hq
  | ok fl =>
    cases fl with
    | ret u => exact I.after hq
    | next => exact False.elim hq
    | brk => exact False.elim hq
    | cont => exact False.elim hq

theorem pe_call (F : FnOk X.prog X.w X.K X.mg X.base CX k f fd ps sp) (hr : Room k X.A) (hg : Gl X x) (hm : X.mg x = some (.ref f)) (hk : PySem.W.keepIn X.K (.ref f) = true) (hb : Binds X.K fd ps ds) (hd : Vals dvs ds) (hx : Passes CX X E)
    (ha : PA X (e :: es) t) (hdb : (x == ("__debug__" : Str)) = false := by decide) (he : starEach (e :: es) X.env = (false, eval e X.env) :: starEach es X.env := by rfl) (hpl : (backTo pos (starEach es X.env)).any (·.1) = false := by rfl) :
    PE X (.Call (.Name x p) (e :: es) [] pos) (tCall sp dvs E t) := by
  intro pins s σ H Q I h
  refine wpAny_Call_Name_kw (ld_glob I hg hm ?_ hdb)
  refine PySem.W.callWith_K (h₀ := X.base) I.ok.mod.kin hk (thn (ha pos pins s σ H _ I h) fun us s1 zq => zq.elim fun vs H1 I1 r q => ⟨I1.kIn, ?_⟩) he hpl
  exact run_fn F hr hb hd hx I1 r q
structure Mk (K : PySem.W.Frag) (C f : Addr) : Prop where
  makes : PySem.W.makesIn K C = true
  init : PySem.W.findIn K (.ref C) "__init__" = some (some (.ref f))
  fn : PySem.W.isFn K (.ref f) = true
  kp : PySem.W.keepIn K (.ref C) = true

end

section
variable {X : Cx} {CX : CXT} {k : Nat} {f C : Addr} {fd : FuncData} {ps ks : List Str} {sp : Sp} {E : XK} {x m : Str} {p pos apos kpos : Pos} {e o : Expr} {es : List Expr} {kws : List Keyword} {te ta : TE} {t tk : TA} {nm : Option Str}
structure KBinds (K : PySem.W.Frag) (fd : FuncData) (ps ks : List Str) (g : List Value → List Value → List Value) (gV : List V → List V → List V) : Prop where
  to : ∀ (s : Shared) (us ws : List Value), K.In s.heap → (g us ws).length = ps.length → BindsTo s fd ⟨us, ks.zip ws⟩ (ps.zip (g us ws))
  rel : ∀ {vs : List V} {us : List Value} {zs : List V} {ws : List Value}, Vals vs us → Vals zs ws → Vals (gV vs zs) (g us ws)
variable {g : List Value → List Value → List Value} {gV : List V → List V → List V}
end

structure FnScope (N P : List Str) (sc : Scope) : Prop where
  kind : sc.kind = .function
  co : sc.isCoroutine = false
  gen : sc.isGenerator = false
  nd : N.Nodup
  pre : N.take P.length = P
  par : ∀ x ∈ P, sc.names.lookup x = some .local ∨ sc.names.lookup x = some .cell
  nofree : ∀ y ∈ sc.names, y.2 ≠ .free

theorem bindL_out {kindOf : Str → Option NameKind} {x : Str} : ∀ {binds : List (Str × Value)} {m : Str → Option Value}, (∀ v, (x, v) ∉ binds) → bindL kindOf binds m x = m x
  | [], _, _ => rfl
  | (n, v) :: r, m, h => by
    unfold bindL
    rw [bindL_out fun w hw => h w (List.mem_cons_of_mem _ hw)]
    split
    · have : x ≠ n := by rintro rfl; exact h v List.mem_cons_self
      simp [this]
    · rfl
theorem bindC_out {kindOf : Str → Option NameKind} {x : Str} : ∀ {binds : List (Str × Value)} {m : Str → Option Value}, (∀ v, (x, v) ∉ binds) → bindC kindOf binds m x = m x
  | [], _, _ => rfl
  | (n, v) :: r, m, h => by
    unfold bindC
    rw [bindC_out fun w hw => h w (List.mem_cons_of_mem _ hw)]
    split
    · rfl
    · have : x ≠ n := by rintro rfl; exact h v List.mem_cons_self
      simp [this]
theorem bindL_get {kindOf : Str → Option NameKind} {x : Str} {v : Value} : ∀ {P : List Str} {vs : List Value} {i : Nat} {m : Str → Option Value}, P.Nodup → P[i]? = some x → vs[i]? = some v → kindOf x = some .local →
    bindL kindOf (P.zip vs) m x = some v
  | [], _, _, _, _, h, _, _ => by simp at h
  | _ :: _, [], _, _, _, _, h, _ => by simp at h
  | p :: P, w :: vs, 0, m, nd, h1, h2, hk => by
    simp at h1 h2; subst h1; subst h2
    show bindL kindOf ((p, w) :: P.zip vs) m p = _
    unfold bindL
    rw [bindL_out fun v hv => (List.nodup_cons.mp nd).1 (List.of_mem_zip hv).1, if_pos hk]
    simp
  | p :: P, w :: vs, i + 1, m, nd, h1, h2, hk => by
    show bindL kindOf ((p, w) :: P.zip vs) m x = _
    unfold bindL
    exact bindL_get (i := i) (List.nodup_cons.mp nd).2 (by simpa using h1) (by simpa using h2) hk
theorem bindC_get {kindOf : Str → Option NameKind} {x : Str} {v : Value} : ∀ {P : List Str} {vs : List Value} {i : Nat} {m : Str → Option Value}, P.Nodup → P[i]? = some x → vs[i]? = some v → kindOf x ≠ some .local →
    bindC kindOf (P.zip vs) m x = some v
  | [], _, _, _, _, h, _, _ => by simp at h
  | _ :: _, [], _, _, _, _, h, _ => by simp at h
  | p :: P, w :: vs, 0, m, nd, h1, h2, hk => by
    simp at h1 h2; subst h1; subst h2
    show bindC kindOf ((p, w) :: P.zip vs) m p = _
    unfold bindC
    rw [bindC_out fun v hv => (List.nodup_cons.mp nd).1 (List.of_mem_zip hv).1, if_neg hk]
    simp
  | p :: P, w :: vs, i + 1, m, nd, h1, h2, hk => by
    show bindC kindOf ((p, w) :: P.zip vs) m x = _
    unfold bindC
    exact bindC_get (i := i) (List.nodup_cons.mp nd).2 (by simpa using h1) (by simpa using h2) hk

def start (N : List Str) (vs : List V) : St := vs.map some ++ List.replicate (N.length - vs.length) none

def cxOf (CX : CXT) (P : Program) (w : World) (K : PySem.W.Frag) (mg : Str → Option Value) (base : Heap) (N : List Str) (qual : Str) (scope : Scope) (f : Addr) (cd : Value) (A : Around) (outer : List Env) (s : Shared) (H : Hp) (E : XK) : Cx where
  prog := P
  w := w
  K := K
  mg := mg
  base := base
  A := A.deeper (envOfC qual scope s.heap.objs.size f cd)
  N := N
  s₀ := s
  H₀ := H
  env := envOfC qual scope s.heap.objs.size f cd
  outer := outer
  stack := envOfC qual scope s.heap.objs.size f cd :: outer
  ex := []
  calm := true
  fn := fun _ => true
  pn := []
  xe := fun e s' => wpAny (model P w) (A.deeper (envOfC qual scope s.heap.objs.size f cd)) (leaving (envOfC qual scope s.heap.objs.size f cd) e) (fun _ s'' => CX outer H s E e s'') (fun e' s'' => CX outer H s E e' s'') s'

theorem cell_has {sc : Scope} {n : Nat} {x : Str} (h : sc.names.lookup x = some .cell) : ∃ c, (cellsFrom n sc.names []).lookup x = some c := by
  have q := PySem.W.cellsFrom_some sc.names n [] (.inl h)
  exact Option.isSome_iff_exists.mp q

theorem inv_start {CX : CXT} {P : Program} {w : World} {K : PySem.W.Frag} {mg : Str → Option Value} {base : Heap} {N ps : List Str} {qual : Str} {scope : Scope} {f : Addr} {cd : Value} {A : Around} {outer : List Env} {s s1 : Shared} {H : Hp} {E : XK} {us : List Value} {vs : List V}
    (S : FnScope N ps scope) (hd : A.handled = none) (e0 : Env0 P w K mg base A outer s H) (hl : vs.length = ps.length) (r : Vals vs us)
    (x : InCallC s s.heap.objs.size (bindL (envOfC qual scope s.heap.objs.size f cd).kindOf (ps.zip us) fun _ => none) (cellsFrom (s.heap.objs.size + 1) scope.names []) (bindC (envOfC qual scope s.heap.objs.size f cd).kindOf (ps.zip us) fun _ => none) s1) :
    Inv (cxOf CX P w K mg base N qual scope f cd A outer s H E) [] (start N vs) H s1 := by
  have hpl : ps.length ≤ N.length := by have := congrArg List.length S.pre; rw [List.length_take] at this; omega
  obtain ⟨h1, tk, rfl, hk⟩ := x.done
  have noA : ∀ b : Addr, b ∉ (cxOf CX P w K mg base N qual scope f cd A outer s H E).ex := fun b z => absurd (show b ∈ ([] : List Addr) from z) (by simp)
  refine ⟨⟨e0.mod, S.kind, rfl, rfl, Nat.le_refl _, fun y z c h1 h2 => ?_, fun y hy => ?_, fun y c _ h => ?_, fun _ => hd, Around.frames_deeper e0.frames, .inr ⟨rfl, rfl⟩, fun b z => absurd z (noA b), e0.bs, e0.bsz, fun b _ _ => noA b, fun b z => absurd z (noA b), e0.funs, e0.frf⟩,
    rfl, e0.bare, Un.kept hk, ⟨_, x.toInCall.ns, fun i y v h1 h2 h3 => ?_⟩, fun y c h => ⟨_, x.cell y c h⟩, e0.hok.fresh (Nat.le_refl _), fun y c h => ?_, fun p hp => absurd (show p ∈ ([] : List (Addr × Obj)) from hp) (by simp), e0.hok.kept hk, ?_⟩
  · exact name_of_addr x.apart (PySem.mem_of_lookup h1) (PySem.mem_of_lookup h2)
  · have hy : scope.names.lookup y = some .cell ∨ scope.names.lookup y = some .free := hy
    rcases hy with hy | hy
    · exact cell_has hy
    · exact absurd rfl (S.nofree _ (PySem.mem_of_lookup hy))
  · exact Nat.le_of_lt (x.above y c (PySem.mem_of_lookup h))
  · have hi : i < vs.length := by
      unfold start at h2
      by_cases hi : i < vs.length
      · exact hi
      · rw [List.getElem?_append_right (by simpa using hi)] at h2
        rw [List.getElem?_replicate] at h2
        split at h2 <;> cases h2
    have ha : vs[i]? = some v := by
      unfold start at h2
      rw [List.getElem?_append_left (by simpa using hi), List.getElem?_map] at h2
      cases e : vs[i]? with
      | none => rw [e] at h2; cases h2
      | some a => rw [e] at h2; cases h2; rfl
    obtain ⟨u, hu, rv⟩ := r.get ha
    have hp : ps[i]? = some y := by
      rw [← S.pre, List.getElem?_take_of_lt (by omega)]; exact h1
    have ndP : ps.Nodup := by rw [← S.pre]; exact S.nd.sublist (List.take_sublist _ _)
    refine ⟨u, rv, ?_⟩
    rcases S.par y (List.mem_of_getElem? hp) with k | k
    · exact .inl ⟨k, bindL_get ndP hp hu k⟩
    · obtain ⟨c, e⟩ := cell_has (n := s.heap.objs.size + 1) k
      refine .inr ⟨.inl k, c, e, ?_⟩
      have q := x.cell y c e
      rw [bindC_get ndP hp hu (by show scope.names.lookup y ≠ _; rw [k]; decide)] at q
      exact q
  · exact e0.hok.fresh (Nat.le_of_lt (x.above y c (PySem.mem_of_lookup h)))
  · unfold start
    show _ = N.length
    rw [List.length_append, List.length_map, List.length_replicate]
    omega

theorem fn_of {CX : CXT} {P : Program} {w : World} {K : PySem.W.Frag} {mg : Str → Option Value} {base : Heap} {k : Nat} {f : Addr} {name qual : Str} {params : Arguments} {body : List Stmt} {scope : Scope} {dV kV doc pm cdv ct oc : Value} {an od : Option Addr}
    {osl : Array (Option Value)} {N ps : List Str} {sp : Sp} (lk : K.lookup f = some ⟨oc, od, .func (PySem.W.fnOf name qual params body scope dV kV doc pm an cdv ct), osl⟩) (hcd : PySem.W.codeIn K cdv qual = true) (S : FnScope N ps scope)
    (len : ∀ vs H Q E, sp vs H Q E → vs.length = ps.length)
    (hbody : ∀ (A : Around) (outer : List Env) (s : Shared) (H : Hp) (vs : List V) (Q : VK) (E : XK), Room k (A.deeper (envOfC qual scope s.heap.objs.size f cdv)) → sp vs H Q E →
      ∃ t, PSs (cxOf CX P w K mg base N qual scope f cdv A outer s H E) body t ∧ t { nx := fun _ H' => Q .non H', rt := Q } (start N vs) H) :
    FnOk P w K mg base CX (k + 1) f (PySem.W.fnOf name qual params body scope dV kV doc pm an cdv ct) ps sp := by
  refine ⟨len, fun A outer s H args us vs Q E hr e0 hb r hsp => ?_⟩
  have hl := len _ _ _ _ hsp
  have KX : K.In s.heap := e0.mod.kin.keeps fun b o e => (e0.bs b o e).1
  have lim : s.heap.NoLimit := e0.mod.nolimit.keeps fun b o e => (e0.bs b o e).1
  have hkind : ∀ y ∈ ps.zip us, scope.names.lookup y.1 = some .local ∨ (scope.names.lookup y.1 = some .cell ∧ ((cellsFrom (s.heap.objs.size + 1) scope.names []).lookup y.1).isSome = true) := fun ⟨n, v⟩ hy => by
    rcases S.par n (List.of_mem_zip hy).1 with q | q
    · exact .inl q
    · exact .inr ⟨q, PySem.W.cellsFrom_some _ _ _ (.inl q)⟩
  refine codeAny_call_function hr.depth (KX _ _ lk) rfl S.co S.gen rfl (PySem.W.codeRec_of KX hcd) (hb _ _ _ _ ?_)
  refine wpAny_newFunctionEnv_cells S.kind hkind fun env he s1 x => ?_
  subst he
  refine ⟨lim.keeps x.toInCall.keep, codeAny_func ?_⟩
  obtain ⟨t, ht, hq⟩ := hbody A outer s H vs Q E (hr.deeper _) hsp
  have I : Inv (cxOf CX P w K mg base N qual scope f cdv A outer s H E) [] (start N vs) H s1 := inv_start S hr.hd e0 hl r x
  refine wpAny_mono (ht [] s1 (start N vs) H _ I hq) (fun fl s' hs => ?_) fun e s' hs => hs
  have fin : ∀ {σ' : St} {H' : Hp} {v : V} {u : Value}, Inv (cxOf CX P w K mg base N qual scope f cdv A outer s H E) [] σ' H' s' → RelV v u → Q v H' → CE outer P w H s Q u s' :=
    fun {σ' H' v u} J rv q => ⟨v, H', J.os, J.bare, J.base, J.hok, rv, q⟩
  cases fl with
  | ret u =>
    obtain ⟨v, σ', H', J, rv, q⟩ := hs
    exact fin J rv q
  | next =>
    obtain ⟨σ', H', J, q⟩ := hs
    exact fin (v := V.non) (u := Value.none) J rfl q
  | brk =>
    obtain ⟨_, _, _, q⟩ := hs
    exact False.elim q
  | cont =>
    obtain ⟨_, _, _, q⟩ := hs
    exact False.elim q
end L2

namespace L2
open PySem PySem.Spec PyProof.Rows
section
variable {X : Cx} {x : Str} {p pos : Pos} {e : Expr} {es : List Expr} {t : TA} {id T : String} {r : List V → Hp → VK → Prop}

def tCB (r : List V → Hp → VK → Prop) (t : TA) : TE := fun σ H Q => t σ H fun vs H1 => r vs H1 Q
theorem pe_callB (hc : CallR X (.builtin id) r) (hg : Gl X x) (hm : X.mg x = none) (hv : bootBuiltins x = some (.builtin id)) (ha : PA X (e :: es) t) (hn : x ≠ "__name__" := by decide) (hdb : (x == ("__debug__" : Str)) = false := by decide)
    (he : starEach (e :: es) X.env = (false, eval e X.env) :: starEach es X.env := by rfl) (hpl : (backTo pos (starEach es X.env)).any (·.1) = false := by rfl) : PE X (.Call (.Name x p) (e :: es) [] pos) (tCB r t) := by
  intro pins s σ H Q I h
  refine wpAny_Call_Name_kw (ld_blt I hg hm hv ?_ hn hdb)
  exact PyProof.Rows.callWith_builtin1 (thn (ha pos pins s σ H _ I h) fun us s1 zq => zq.elim fun vs H1 I1 r1 q1 => hc pins s1 σ H1 vs us Q I1 r1 q1) he hpl
theorem pe_callTy (hc : CallR X (.type T) r) (hg : Gl X x) (hm : X.mg x = none) (hv : bootBuiltins x = some (.type T)) (ha : PA X (e :: es) t) (hn : x ≠ "__name__" := by decide) (hdb : (x == ("__debug__" : Str)) = false := by decide)
    (he : starEach (e :: es) X.env = (false, eval e X.env) :: starEach es X.env := by rfl) (hpl : (backTo pos (starEach es X.env)).any (·.1) = false := by rfl) : PE X (.Call (.Name x p) (e :: es) [] pos) (tCB r t) := by
  intro pins s σ H Q I h
  refine wpAny_Call_Name_kw (ld_blt I hg hm hv ?_ hn hdb)
  exact PyProof.Rows.callWith_type1 (thn (ha pos pins s σ H _ I h) fun us s1 zq => zq.elim fun vs H1 I1 r1 q1 => hc pins s1 σ H1 vs us Q I1 r1 q1) he hpl
end
end L2

namespace HT
open PySem PyProof.Rows

def lexLt : List Int → List Int → Bool
  | [], [] => false
  | [], _ :: _ => true
  | _ :: _, [] => false
  | x :: xs, y :: ys => if x = y then lexLt xs ys else decide (x < y)
section
open PySem.SeqAt
open PySem.AutoSeq1 (wpAny_loadPart')
open PySem.MeetsSeq PySem.MeetsSeq2 PySem.MeetsSeq3

end

section
variable {prog : Program} {w : World} {A : Around} {E : Value → Shared → Prop} {s : Shared}

theorem cat_tup {t b : Addr} {vs ws : List Value} {Q : Value → Shared → Prop} (ht : IsTup s.heap t vs.toArray) (hb : IsTup s.heap b ws.toArray) (hv : vs ≠ [])
    (h1 : ws = [] → Q (.ref t) s) (h2 : ws ≠ [] → Q (.ref s.heap.objs.size) { s with heap := s.heap.push { cls := .type "tuple", data := .seq (vs ++ ws).toArray } })
    (hsz : vs.length + ws.length ≤ sizeLine) : wpAny (model prog w) A (binaryOp .Add (.ref t) (.ref b)) Q E s := by
  obtain ⟨⟨cls, dd, data, sl⟩, ho, hc, n, hd⟩ := id ht
  obtain ⟨⟨cls2, dd2, data2, sl2⟩, ho2, hc2, n2, hd2⟩ := id hb
  simp only at hc hd hc2 hd2
  subst hc hd hc2 hd2
  have e : vs.toArray ++ ws.toArray = (vs ++ ws).toArray := by simp
  by_cases hw : ws = []
  · exact concat_meets ⟨_, ho, rfl⟩ ⟨_, ho2, rfl⟩ noFill_tuple_add seq_tuple_add PySem.F.slot_tuple_add PySem.F.entry_tuple_add (PySem.F.args_tuple_add_2 _ _)
      (tuple_addW1 t b vs.toArray ws.toArray n n2 dd dd2 sl sl2 (by simpa using hv) (by simp [hw])) ⟨ho, ho2, h1 hw⟩
  · refine concat_meets ⟨_, ho, rfl⟩ ⟨_, ho2, rfl⟩ noFill_tuple_add seq_tuple_add PySem.F.slot_tuple_add PySem.F.entry_tuple_add (PySem.F.args_tuple_add_2 _ _)
      (tuple_addW2 t b vs.toArray ws.toArray n n2 dd dd2 sl sl2 (by simpa using hv) (by simpa using hw) (by rw [List.size_toArray, List.size_toArray]; exact hsz)) ⟨ho, ho2, ?_⟩
    rw [e]
    exact h2 hw

def sIx (n d : Nat) : Option Int → Nat
  | none => d
  | some v => if v < 0 then (v + (n : Int)).toNat else min v.toNat n
theorem sIx_none (n d : Nat) : sIx n d none = d := rfl
theorem sIx_le (n d : Nat) (hd : d ≤ n) (o : Option Int) : sIx n d o ≤ n := by
  cases o with
  | none => exact hd
  | some v =>
    show (if v < 0 then (v + (n : Int)).toNat else min v.toNat n) ≤ n
    by_cases hv : v < 0
    · rw [if_pos hv]; omega
    · rw [if_neg hv]; exact Nat.min_le_right _ _
theorem clip_eq (v : Int) (n d : Nat) : (if v < 0 then max (v + (n : Int)) 0 else min v (n : Int)) = ((sIx n d (some v) : Nat) : Int) := by
  show (if v < 0 then max (v + (n : Int)) 0 else min v (n : Int)) = (((if v < 0 then (v + (n : Int)).toNat else min v.toNat n) : Nat) : Int)
  by_cases hv : v < 0
  · simp only [if_pos hv]; exact (Int.toNat_eq_max _).symm
  · simp only [if_neg hv]
    obtain ⟨m, rfl⟩ := Int.eq_ofNat_of_zero_le (Int.not_lt.mp hv)
    show min (m : Int) (n : Int) = ((min m n : Nat) : Int)
    by_cases h : m ≤ n
    · rw [Nat.min_eq_left h, Int.min_eq_left (Int.ofNat_le.mpr h)]
    · rw [Nat.min_eq_right (Nat.le_of_not_le h), Int.min_eq_right (Int.ofNat_le.mpr (Nat.le_of_not_le h))]
theorem adjust_gen (lo hi : Option Int) (n : Nat) : Builtin.Slice.sliceAdjust lo hi 1 (n : Int) = (((sIx n 0 lo : Nat) : Int), ((sIx n n hi : Nat) : Int)) := by
  have h1 : ¬ ((1 : Int) < 0) := by omega
  unfold Builtin.Slice.sliceAdjust
  simp only [h1, if_false]
  refine Prod.ext ?_ ?_
  · cases lo with
    | none => rfl
    | some v => exact clip_eq v n 0
  · cases hi with
    | none => rfl
    | some v => exact clip_eq v n n
theorem places_gen (i j : Nat) : Builtin.Slice.slicePlaces (i : Int) (j : Int) 1 = j - i := by
  unfold Builtin.Slice.slicePlaces
  have h1 : (1 : Int) > 0 := by omega
  simp only [h1, if_true, Int.ediv_one]
  split <;> omega
theorem slicePart_ {v : Value} {o : Option Int} {Q : Option Int → Shared → Prop} (p : IsPart v o) (h : Q o s) : wpAny (model prog w) A (Builtin.Slice.slicePartIndex v) Q E s := by
  cases p with
  | none => exact slicePart_none h
  | int i t => exact slicePart_int h
theorem sliceApplied_gen {sl : Addr} {vl vu : Value} {lo hi : Option Int} {n : Nat} {Q : Int × Int × Nat → Shared → Prop} (hs : s.heap.IsSliceOf sl vl vu .none) (pl : IsPart vl lo) (pu : IsPart vu hi)
    (h : Q (((sIx n 0 lo : Nat) : Int), 1, sIx n n hi - sIx n 0 lo) s) : wpAny (model prog w) A (Builtin.Slice.sliceApplied (.ref sl) (pure (n : Int))) Q E s := by
  obtain ⟨os, hos, hcs, hds⟩ := id hs
  unfold Builtin.Slice.sliceApplied Builtin.Slice.sliceFields
  refine wpAny_bind (wpAny_bind (wpAny_field hos hds (x := vl) rfl (wpAny_bind (wpAny_field hos hds (x := vu) rfl (wpAny_bind (wpAny_field hos hds (x := .none) rfl (wpAny_pure ?_)))))))
  refine wpAny_bind (slicePart_none ?_)
  show wpAny _ _ (if ((1 : Int) == 0) = true then _ else _) _ _ s
  rw [if_neg (by decide)]
  refine wpAny_bind (slicePart_ pl (wpAny_bind (slicePart_ pu (wpAny_bind (wpAny_pure ?_)))))
  show wpAny _ _ (match Builtin.Slice.sliceAdjust lo hi 1 (n : Int) with | (lo, hi) => pure (lo, (1 : Int), Builtin.Slice.slicePlaces lo hi 1)) _ _ s
  rw [adjust_gen lo hi n]
  show wpAny _ _ (pure (((sIx n 0 lo : Nat) : Int), (1 : Int), Builtin.Slice.slicePlaces ((sIx n 0 lo : Nat) : Int) ((sIx n n hi : Nat) : Int) 1)) _ _ s
  rw [places_gen]
  exact wpAny_pure h
theorem pick_gen (xs : Array Value) (i k : Nat) : ((List.range k).filterMap fun (m : Nat) => xs[((i : Int) + (m : Int) * 1).toNat]?).toArray = ((xs.toList.drop i).take k).toArray := by
  have e : (fun (m : Nat) => xs[((i : Int) + (m : Int) * 1).toNat]?) = fun m => xs[i + m]? := by
    funext m
    have : ((i : Int) + (m : Int) * 1).toNat = i + m := by omega
    rw [this]
  rw [e]
  have := pick_run xs i k
  rw [List.filterMap_map] at this
  have e2 : ((fun x => xs[x]?) ∘ fun x => i + x) = fun m => xs[i + m]? := rfl
  rw [e2] at this
  rw [this]

theorem getItem_tuple_cut {t sl : Addr} {items : Array Value} {vl vu : Value} {lo hi : Option Int} {Q : Value → Shared → Prop} (ht : IsTup s.heap t items) (hs : s.heap.IsSliceOf sl vl vu .none) (pl : IsPart vl lo) (pu : IsPart vu hi)
    (hw : ¬ (sIx items.size 0 lo = 0 ∧ sIx items.size items.size hi = items.size))
    (h : Q (.ref s.heap.objs.size) { s with heap := s.heap.push { cls := .type "tuple", data := .seq ((items.toList.drop (sIx items.size 0 lo)).take (sIx items.size items.size hi - sIx items.size 0 lo)).toArray } })
    (hsz : items.size ≤ sizeLine) : wpAny (model prog w) A (getItem (.ref t) (.ref sl)) Q E s := by
  have htake : sizeOk (.seq ((items.toList.drop (sIx items.size 0 lo)).take (sIx items.size items.size hi - sIx items.size 0 lo)).toArray) := by
    show ((items.toList.drop (sIx items.size 0 lo)).take (sIx items.size items.size hi - sIx items.size 0 lo)).toArray.size ≤ sizeLine
    rw [List.size_toArray, List.length_take, List.length_drop, Array.length_toList]
    omega
  have hj : sIx items.size items.size hi ≤ items.size := sIx_le _ _ (Nat.le_refl _) hi
  obtain ⟨os, hos, hcs, hds⟩ := id hs
  have hTs : s.TypeIs (.ref sl) "slice" := ⟨os, hos, hcs⟩
  unfold getItem
  try with_reducible refine wpAny_holding ?_
  first | refine wpAny_bind (wpAny_pure ?_) | skip
  refine wpAny_bind (wpAny_sequenceKey ht.typeIs (by decide) ?_)
  refine wpAny_bind (wpAny_callSpecial?_slot (name := Str.ofString "__getitem__") ht.typeIs PyProof.Rows.slot_tuple_getitem
    (wpAny_call_entry PyProof.Rows.slot_tuple_getitem ht.typeIs entry_tuple_getitem ?_ (args_tuple_getitem _ _)))
  show wpAny _ _ (Builtin.Tuple.tupleItemsOf (.ref t) >>= _) _ _ s
  refine wpAny_bind (tupleItemsOf_ ht ?_)
  refine wpAny_bind (wpAny_typeOf hTs ?_)
  rw [if_pos (by decide)]
  refine wpAny_bind (sliceApplied_gen hs pl pu ?_)
  have hno : ¬ ((((sIx items.size 0 lo : Nat) : Int) == 0 && (1 : Int) == 1 && (sIx items.size items.size hi - sIx items.size 0 lo) == items.size) = true) := by
    intro q
    rw [Bool.and_eq_true, Bool.and_eq_true] at q
    have q1 : ((sIx items.size 0 lo : Nat) : Int) = 0 := eq_of_beq q.1.1
    have q2 : sIx items.size items.size hi - sIx items.size 0 lo = items.size := eq_of_beq q.2
    exact hw ⟨by omega, by omega⟩
  show wpAny _ _ (if (((sIx items.size 0 lo : Nat) : Int) == 0 && (1 : Int) == 1 && (sIx items.size items.size hi - sIx items.size 0 lo) == items.size) = true then _ else _) _ _ s
  rw [if_neg hno, pick_gen]
  first
    | exact wpAny_bind (m := Builtin.Tuple.tupleExact _) (wpAny_newObj_type (wpAny_pure ⟨_, rfl, wpAny_pure h⟩) htake)
    | exact wpAny_bind (m := Builtin.Tuple.tupleExact _) (wpAny_newObj_type (wpAny_bind (wpAny_pure (wpAny_pure ⟨_, rfl, wpAny_pure h⟩))) htake)
    | exact wpAny_bind (wpAny_bind (m := Builtin.Tuple.tupleExact _) (wpAny_newObj_type (wpAny_pure (wpAny_pure ⟨_, rfl, wpAny_pure h⟩)) htake))
    | exact wpAny_bind (wpAny_bind (m := Builtin.Tuple.tupleExact _) (wpAny_newObj_type (wpAny_pure ⟨_, rfl, wpAny_pure h⟩) htake))
end
end HT

namespace L2
open PySem PySem.Spec PyProof.Rows

abbrev TO := St → Hp → (Option Int → Hp → Prop) → Prop
def PO (X : Cx) (e : Option Expr) (t : TO) : Prop :=
  ∀ (pins : List (Addr × Obj)) (s : Shared) (σ : St) (H : Hp) (Q : Option Int → Hp → Prop), Inv X pins σ H s → t σ H Q →
    wpAny (model X.prog X.w) X.A (evalPart e X.env) (fun u s' => ∃ o H', Inv X pins σ H' s' ∧ IsPart u o ∧ Q o H') X.xe s
def tNoPart : TO := fun _ H Q => Q none H
def tPart (t : TE) : TO := fun σ H Q => t σ H fun x H1 => PtQ x H1 Q

section
variable {X : Cx} {e : Expr} {te : TE} {lo hi : Option Expr} {tl th : TO} {pos p2 : Pos}

theorem po_none : PO X none tNoPart := by
  intro pins s σ H Q I h
  rw [evalPart_none]
  exact wpAny_pure ⟨none, H, I, .none, h⟩
theorem po_some (h : PE X e te) : PO X (some e) (tPart te) := by
  intro pins s σ H Q I hw
  rw [evalPart_some]
  refine thn (h pins s σ H _ I hw) fun u s1 zq => zq.elim fun x H1 I1 r1 q1 => ?_
  obtain ⟨i, rfl, q⟩ := q1
  obtain ⟨t, rfl⟩ := r1
  exact ⟨some i, H1, I1, .int i t, q⟩

def SlR (X : Cx) (r : V → Option Int → Option Int → Hp → VK → Prop) : Prop :=
  ∀ (pins : List (Addr × Obj)) (s : Shared) (σ : St) (H : Hp) (x : V) (v vl vu : Value) (lo hi : Option Int) (sl : Addr) (Q : VK), Inv X pins σ H s → RelV x v → s.heap.IsSliceOf sl vl vu .none → IsPart vl lo → IsPart vu hi → r x lo hi H Q →
    ∃ T id, typeLookup (.type T) "__getitem__" = pure (some (.builtin id)) ∧ s.TypeIs v T ∧ wpAny (model X.prog X.w) X.A (getItem v (.ref sl)) (EP X pins σ Q) X.xe s
def tSl (r : V → Option Int → Option Int → Hp → VK → Prop) (te : TE) (tl th : TO) : TE := fun σ H Q => te σ H fun x H1 => tl σ H1 fun l H2 => th σ H2 fun u H3 => r x l u H3 Q
theorem pe_slice {r : V → Option Int → Option Int → Hp → VK → Prop} (hr : SlR X r) (he : PE X e te) (hl : PO X lo tl) (hu : PO X hi th) : PE X (.Subscript e (.Slice lo hi none p2) pos) (tSl r te tl th) := by
  intro pins s σ H Q I h
  refine Subscript_ (thn (he pins s σ H _ I h) fun v s1 zq => zq.elim fun x H1 I1 r1 q1 => ?_)
  refine wpAny_Slice (thn (hl pins s1 σ H1 _ I1 q1) fun vl s2 ⟨l, H2, I2, pl, q2⟩ => thn (hu pins s2 σ H2 _ I2 q2) fun vu s3 ⟨u, H3, I3, pu, q3⟩ => ?_)
  rw [evalPart_none]
  refine wpAny_pure ?_
  have I4 : Inv X pins σ H3 { s3 with heap := s3.heap.push { cls := .type "slice", data := .fields #[vl, vu, .none] } } := I3.kept (t' := s3.toks) fun b ob q => Heap.get?_push_of_some _ q
  obtain ⟨T, id, hT, ht, hg⟩ := hr pins { s3 with heap := s3.heap.push { cls := .type "slice", data := .fields #[vl, vu, .none] } } σ H3 x v vl vu l u s3.heap.objs.size Q I4 r1 (Heap.IsSliceOf.new ..) pl pu q3
  show wpAny (model X.prog X.w) X.A (subscriptTail e (.Slice lo hi none p2) v (.ref s3.heap.objs.size)) (EP X pins σ Q) X.xe { s3 with heap := s3.heap.push { cls := .type "slice", data := .fields #[vl, vu, .none] } }
  exact tail_any (ops := [.ref s3.heap.objs.size, v]) ht hT hg (by with_unfolding_all rfl)

def cutV (xs : List V) (lo hi : Option Int) : List V := (xs.drop (HT.sIx xs.length 0 lo)).take (HT.sIx xs.length xs.length hi - HT.sIx xs.length 0 lo)
theorem cutV_length (xs : List V) (lo hi : Option Int) : (cutV xs lo hi).length ≤ xs.length := by
  unfold cutV
  rw [List.length_take, List.length_drop]
  omega
inductive rSlTI (K : PySem.W.Frag) (x : V) (lo : Option Int) (hi : Option Int) (H : Hp) (Q : VK) : Prop
  | mk (a : _) (xs : _) (x0 : x = .ref a) (x1 : SqT K H a xs) (x2 : ¬ (HT.sIx xs.length 0 lo = 0 ∧ HT.sIx xs.length xs.length hi = xs.length)) (x3 : ∀ p, H p = none → Q (.ref p) (upd H p (.tup (cutV xs lo hi)))) : rSlTI K x lo hi H Q
def rSlT (K : PySem.W.Frag) : V → Option Int → Option Int → Hp → VK → Prop := fun x lo hi H Q => rSlTI K x lo hi H Q
theorem sl_tup : SlR X (rSlT X.K) := by
  intro pins s σ H x v vl vu lo hi sl Q I rx hs pl pu h
  obtain ⟨a, xs, rfl, hx, hw, q⟩ := h
  cases rx
  obtain ⟨its, r, ht, hz⟩ := I.tuple hx
  have hlen : its.toArray.size = xs.length := by rw [List.size_toArray]; exact r.length.symm
  refine ⟨"tuple", _, PyProof.Rows.slot_tuple_getitem.lookup, ht.typeIs, ?_⟩
  refine HT.getItem_tuple_cut ht hs pl pu (by rw [hlen]; exact hw) ?_ (by rw [hlen]; exact hz)
  rw [hlen]
  refine ⟨.ref s.heap.objs.size, _, I.laid (t' := s.toks) (o := .tup (cutV xs lo hi)) (fun b ob q => Heap.get?_push_of_some _ q) (Nat.le_refl _) ?_, rfl, q _ (I.hok.fresh (Nat.le_refl _))⟩
  exact ⟨Nat.le_trans (cutV_length xs lo hi) hz, _, (r.drop (HT.sIx xs.length 0 lo)).take (HT.sIx xs.length xs.length hi - HT.sIx xs.length 0 lo), IsTup.new _ _⟩

inductive rLtTI (K : PySem.W.Frag) (x : V) (y : V) (H : Hp) (Q : VK) : Prop
  | mk (a : _) (b : _) (ns : _) (ms : _) (x0 : x = .ref a) (x1 : y = .ref b) (x2 : SqT K H a (ns.map V.int)) (x3 : SqT K H b (ms.map V.int)) (x4 : Q (.bl (HT.lexLt ns ms)) H) : rLtTI K x y H Q
inductive rCatTI (K : PySem.W.Frag) (x : V) (y : V) (H : Hp) (Q : VK) : Prop
  | mk (a : _) (b : _) (xs : _) (ys : _) (x0 : x = .ref a) (x1 : y = .ref b) (x2 : SqT K H a xs) (x3 : SqT K H b ys) (x4 : xs ≠ []) (x5 : xs.length + ys.length ≤ sizeLine) (x6 : (ys = [] → Q (.ref a) H)) (x7 : (ys ≠ [] → ∀ p, H p = none → Q (.ref p) (upd H p (.tup (xs ++ ys))))) : rCatTI K x y H Q
def rCatT (K : PySem.W.Frag) : R2 := fun x y H Q => rCatTI K x y H Q
theorem Vals.nil_iff {xs : List V} {us : List Value} (r : Vals xs us) : us = [] ↔ xs = [] := by
  cases r with
  | nil => simp
  | cons _ _ => simp
theorem op_catT : OpR X (binaryOp .Add) (rCatT X.K) := by
  intro pins s σ H x y v u Q I rx ry h
  obtain ⟨a, b, xs, ys, rfl, rfl, ha, hb, hx, hz, q1, q2⟩ := h
  cases rx
  cases ry
  obtain ⟨its, r1, p1, _⟩ := I.tuple ha
  obtain ⟨its2, r2, p2, _⟩ := I.tuple hb
  refine HT.cat_tup p1 p2 (fun z => hx (r1.nil_iff.mp z)) (fun z => ⟨.ref a, H, I, rfl, q1 (r2.nil_iff.mp z)⟩) (fun z => ?_) (by rw [← r1.length, ← r2.length]; exact hz)
  refine ⟨.ref s.heap.objs.size, _, I.laid (t' := s.toks) (o := .tup (xs ++ ys)) (fun b ob q => Heap.get?_push_of_some _ q) (Nat.le_refl _) ?_, rfl, q2 (fun w => z (r2.nil_iff.mpr w)) _ (I.hok.fresh (Nat.le_refl _))⟩
  exact ⟨by rw [List.length_append]; exact hz, _, r1.append r2, IsTup.new _ _⟩
inductive r_call_tupleTI (K : PySem.W.Frag) (xs : List V) (H : Hp) (Q : VK) : Prop
  | mk (a : _) (ys : _) (h0_ : xs = [.ref a]) (h1_ : SqT K H a ys) (h2_ : Q (.ref a) H) : r_call_tupleTI K xs H Q
end
end L2

namespace L2
open PySem PySem.Spec PyProof.Rows

def ixN (n : Nat) (i : Int) : Option Nat := if 0 ≤ i then (if i < n then some i.toNat else none) else if -(n : Int) ≤ i then some (i + n).toNat else none
def atI {α : Type} (xs : List α) (i : Int) : Option α := (ixN xs.length i).bind fun j => xs[j]?
theorem ixN_seq {n : Nat} {i : Int} {j : Nat} (h : ixN n i = some j) : seqIndex? i n = some j ∧ j < n ∧ -(n : Int) ≤ i ∧ i < n := by
  unfold ixN at h
  by_cases h0 : 0 ≤ i
  · rw [if_pos h0] at h
    by_cases h1 : i < n
    · rw [if_pos h1] at h
      have e : i.toNat = j := Option.some.inj h
      exact ⟨by rw [seqIndex_of h0 h1, e], by omega, by omega, h1⟩
    · rw [if_neg h1] at h; cases h
  · rw [if_neg h0] at h
    by_cases h1 : -(n : Int) ≤ i
    · rw [if_pos h1] at h
      have e : (i + n).toNat = j := Option.some.inj h
      exact ⟨by rw [seqIndex_neg (by omega) h1, e], by omega, h1, by omega⟩
    · rw [if_neg h1] at h; cases h
theorem atI_get {α : Type} {xs : List α} {i : Int} {v : α} (h : atI xs i = some v) : ∃ j, seqIndex? i xs.length = some j ∧ xs[j]? = some v ∧ j < xs.length ∧ -(xs.length : Int) ≤ i ∧ i < xs.length := by
  unfold atI at h
  cases e : ixN xs.length i with
  | none => rw [e] at h; cases h
  | some j =>
    rw [e] at h
    obtain ⟨h1, h2, h3, h4⟩ := ixN_seq e
    exact ⟨j, h1, h, h2, h3, h4⟩
theorem atI_nat {α : Type} {xs : List α} {j : Nat} {v : α} (h : xs[j]? = some v) : atI xs (j : Int) = some v := by
  have hj : j < xs.length := (List.getElem?_eq_some_iff.mp h).1
  have e : ixN xs.length (j : Int) = some j := by
    unfold ixN
    rw [if_pos (by omega), if_pos (by omega)]; simp
  unfold atI; rw [e]; exact h
theorem atI_last {α : Type} (xs : List α) (v : α) : atI (xs ++ [v]) (-1) = some v := by
  have hl : (xs ++ [v]).length = xs.length + 1 := by simp
  have e : ixN (xs ++ [v]).length (-1) = some xs.length := by
    unfold ixN
    rw [hl, if_neg (by decide), if_pos (by omega)]
    congr 1
    omega
  unfold atI
  rw [e]
  show (xs ++ [v])[xs.length]? = some v
  simp

def PlainIx (b : Expr) : Prop := ∀ o i, subscripted b false o i = operate [o, i] (getItem o i)
def IxR (X : Cx) (r : R2) : Prop :=
  ∀ (value slice : Expr) (pins : List (Addr × Obj)) (s : Shared) (σ : St) (H : Hp) (x y : V) (v u : Value) (Q : VK), Inv X pins σ H s → RelV x v → RelV y u → r x y H Q →
    subscripted slice false v u = operate [v, u] (getItem v u) → wpAny (model X.prog X.w) X.A (subscriptTail value slice v u) (EP X pins σ Q) X.xe s
def MtR (X : Cx) (id : String) (r : V → List V → Hp → VK → Prop) : Prop :=
  ∀ (pins : List (Addr × Obj)) (s : Shared) (σ : St) (H : Hp) (x : V) (xs : List V) (v : Value) (us : List Value) (Q : VK), Inv X pins σ H s → RelV x v → Vals xs us → r x xs H Q →
    wpAny (model X.prog X.w) X.A (call (.builtin id) (v :: us)) (EP X pins σ Q) X.xe s
section
variable {X : Cx} {a b : Expr} {ta tb : TE} {pos : Pos}
theorem pe_ix {r : R2} (hr : IxR X r) (ha : PE X a ta) (hb : PE X b tb) (hs : PlainIx b) : PE X (.Subscript a b pos) (tOp r ta tb) := by
  intro pins s σ H Q I h
  exact Subscript_ (binT ha hb I h fun v u s2 x y H2 I2 rx ry q => hr a b pins s2 σ H2 x y v u Q I2 rx ry q (hs _ _))

inductive rIxLI (K : PySem.W.Frag) (x : V) (y : V) (H : Hp) (Q : VK) : Prop
  | mk (p : _) (xs : _) (i : _) (v : _) (x0 : x = .ref p) (x1 : y = .int i) (x2 : SqL K H p xs) (x3 : atI xs i = some v) (x4 : Q v H) : rIxLI K x y H Q
def rIxL (K : PySem.W.Frag) : R2 := fun x y H Q => rIxLI K x y H Q
inductive rIxTI (K : PySem.W.Frag) (x : V) (y : V) (H : Hp) (Q : VK) : Prop
  | mk (p : _) (xs : _) (i : _) (v : _) (x0 : x = .ref p) (x1 : y = .int i) (x2 : SqT K H p xs) (x3 : atI xs i = some v) (x4 : Q v H) : rIxTI K x y H Q
def rIxT (K : PySem.W.Frag) : R2 := fun x y H Q => rIxTI K x y H Q
inductive rIxSI (x : V) (y : V) (H : Hp) (Q : VK) : Prop
  | mk (z : _) (i : _) (c : _) (x0 : x = .str z) (x1 : y = .int i) (x2 : z.length ≤ sizeLine) (x3 : atI z.cps.toList i = some c) (x4 : Q (.str ⟨#[c]⟩) H) : rIxSI  x y H Q
def rIxS : R2 := fun x y H Q => rIxSI  x y H Q
theorem ix_list : IxR X (rIxL X.K) := by
  intro value slice pins s σ H x y v u Q I rx ry h hs
  obtain ⟨p, xs, i, z, rfl, rfl, hq, he, q⟩ := h
  cases rx
  obtain ⟨t, rfl⟩ := ry
  obtain ⟨its, r, pl, hz⟩ := I.list hq
  obtain ⟨j, h1, h2, h3, h4, h5⟩ := atI_get he
  obtain ⟨w, ew, rw'⟩ := r.get h2
  have hl := r.length
  have hn := line63
  have fin : EP X pins σ Q w s := ⟨z, H, I, rw', q⟩
  by_cases h0 : 0 ≤ i
  · have hj : i.toNat = j := by
      rw [seqIndex_of h0 h5] at h1
      exact Option.some.inj h1
    exact item_listR pl.isList h0 (by omega) (by rw [hj]; simpa using ew) fin hs
  · have hj : (i + (its.toArray.size : Int)).toNat = j := by
      rw [seqIndex_neg (by omega) h4] at h1
      rw [List.size_toArray, ← hl]
      exact Option.some.inj h1
    exact subscriptTail_builtinR (x := w) pl.isList.typeIs slot_list_getitem.lookup
      (wpAny_getItem_list_neg (Q := fun r s' => r = w ∧ EP X pins σ Q r s') pl.isList (by omega) (by rw [List.size_toArray] <;> omega) (by omega) (by rw [hj]; simpa using ew) ⟨rfl, fin⟩) hs
theorem ix_tup : IxR X (rIxT X.K) := by
  intro value slice pins s σ H x y v u Q I rx ry h hs
  obtain ⟨p, xs, i, z, rfl, rfl, hq, he, q⟩ := h
  cases rx
  obtain ⟨t, rfl⟩ := ry
  obtain ⟨its, r, pl, hz⟩ := I.tuple hq
  obtain ⟨j, h1, h2, h3, h4, h5⟩ := atI_get he
  obtain ⟨w, ew, rw'⟩ := r.get h2
  have hl := r.length
  have hn := line63
  have fin : EP X pins σ Q w s := ⟨z, H, I, rw', q⟩
  exact subscriptTail_builtinR (x := w) pl.typeIs slot_tuple_getitem.lookup
    (getItem_tuple (j := j) (Q := fun r s' => r = w ∧ EP X pins σ Q r s') pl (by omega) (by omega) (by rw [List.size_toArray, ← hl]; exact h1) (by simpa using ew) ⟨rfl, fin⟩) hs
theorem ix_str : IxR X rIxS := by
  intro value slice pins s σ H x y v u Q I rx ry h hs
  obtain ⟨z, i, c, rfl, rfl, hz, he, q⟩ := h
  obtain ⟨t, rfl⟩ := rx
  obtain ⟨t', rfl⟩ := ry
  obtain ⟨j, h1, h2, h3, h4, h5⟩ := atI_get he
  have hl : z.cps.toList.length = z.length := by simp [Str.length]
  rw [hl] at h1 h4 h5
  have hn := line63
  exact tail_any (typeIs_str s z t) slot_str_getitem.lookup (getItem_str (c := c) (by
    have e1 : decide (i < -(2 ^ 63 : Int)) = false := decide_eq_false (by omega)
    have e2 : decide (i ≥ 2 ^ 63) = false := decide_eq_false (by omega)
    rw [e1, e2, Bool.or_false]) (by rw [h1]; simpa using h2) ⟨.str ⟨#[c]⟩, H, I.tok _, ⟨_, rfl⟩, q⟩) hs
theorem mapSeq_set (its : List Value) (n j : Nat) (u : Value) : Obj.mapSeq (·.setIfInBounds j u) { cls := .type "list", data := .seq its.toArray n } = { cls := .type "list", data := .seq (its.set j u).toArray n } := by
  simp [Obj.mapSeq]
theorem Inv.lst {pins : List (Addr × Obj)} {σ : St} {H : Hp} {s : Shared} {p : Addr} {xs : List V} (I : Inv X pins σ H s) (h : H p = some (.lst xs)) :
    ∃ (its : List Value) (n : Nat), Vals xs its ∧ s.heap.get? p = some { cls := .type "list", data := .seq its.toArray n } ∧ xs.length ≤ sizeLine := by
  obtain ⟨z, its, n, r, e⟩ := I.hok p _ h
  exact ⟨its, n, r, e, z⟩
theorem Inv.lstUpd {pins : List (Addr × Obj)} {σ : St} {H : Hp} {s : Shared} {p : Addr} {xs ys : List V} {its its' : List Value} {n n' : Nat} {f : Obj → Obj} (I : Inv X pins σ H s) (h : H p = some (.lst xs))
    (ho : s.heap.get? p = some { cls := .type "list", data := .seq its.toArray n }) (hf : f { cls := .type "list", data := .seq its.toArray n } = { cls := .type "list", data := .seq its'.toArray n' }) (r : Vals ys its') (hz : ys.length ≤ sizeLine) (t : Nat) :
    Inv X pins σ (upd H p (.lst ys)) { s with heap := s.heap.update p f, toks := t } := by
  have e : (s.heap.update p f).get? p = some { cls := .type "list", data := .seq its'.toArray n' } := by
    rw [Heap.get?_update_self f ho (by rw [hf] <;> rfl), hf]
  refine I.write (x := p) (e := p) (by rw [h]; trivial) (.inl rfl) (fun b u hb q => (Heap.get?_update_other _ _ (Ne.symm hb)).trans q) ⟨_, e⟩ ?_
  exact ⟨hz, its', n', r, e⟩
inductive rSetLI (o : V) (i : V) (v : V) (H : Hp) (Q : (Hp → Prop)) : Prop
  | mk (p : _) (xs : _) (k : _) (j : _) (x0 : o = .ref p) (x1 : i = .int k) (x2 : H p = some (.lst xs)) (x3 : ixN xs.length k = some j) (x4 : Q (upd H p (.lst (xs.set j v)))) : rSetLI  o i v H Q
def rSetL : V → V → V → Hp → (Hp → Prop) → Prop := fun o i v H Q => rSetLI  o i v H Q
theorem set_list : PSet X rSetL := by
  intro pins s σ H o i v ov iv u Q I ro ri rv h
  obtain ⟨p, xs, k, j, rfl, rfl, hp, hj, q⟩ := h
  cases ro
  obtain ⟨t, rfl⟩ := ri
  obtain ⟨its, n, r, ho, hz⟩ := I.lst hp
  obtain ⟨h1, h2, h3, h4⟩ := ixN_seq hj
  have hl := r.length
  have hn := line63
  have I' : Inv X pins σ (upd H p (.lst (xs.set j v))) { s with heap := s.heap.update p (Obj.mapSeq (·.setIfInBounds j u)) } :=
    I.lstUpd hp ho (mapSeq_set its n j u) (r.set rv j) (by rw [List.length_set]; exact hz) s.toks
  by_cases h0 : 0 ≤ k
  · have hk : k.toNat = j := by
      rw [seqIndex_of h0 h4] at h1
      exact Option.some.inj h1
    exact PySem.W.ki_setAt ho h0 (by omega) (by rw [List.size_toArray, ← hl]; exact h4) (by rw [hk]; exact ⟨_, I', q⟩)
  · have hk : (k + (its.toArray.size : Int)).toNat = j := by
      rw [seqIndex_neg (by omega) h3] at h1
      rw [List.size_toArray, ← hl]
      exact Option.some.inj h1
    exact PySem.W.ki_setBack ho (by omega) (by rw [List.size_toArray, ← hl]; exact h3) (by omega) (by rw [hk]; exact ⟨_, I', q⟩)

inductive rSlLI (K : PySem.W.Frag) (x : V) (lo : Option Int) (hi : Option Int) (H : Hp) (Q : VK) : Prop
  | mk (a : _) (xs : _) (x0 : x = .ref a) (x1 : SqL K H a xs) (x2 : ∀ p, H p = none → Q (.ref p) (upd H p (.lst (cutV xs lo hi)))) : rSlLI K x lo hi H Q
def flatV : V → Bool
  | .non => true
  | .bl _ => true
  | .int _ => true
  | .str _ => true
  | _ => false
def eqV : V → V → Bool
  | .non, .non => true
  | .bl a, .bl b => a == b
  | .bl a, .int b => (if a then 1 else 0) == b
  | .int a, .bl b => a == (if b then 1 else 0)
  | .int a, .int b => a == b
  | .str a, .str b => a == b
  | _, _ => false
theorem eqAt_V {A : Around} {s : Shared} {y x : V} {u v : Value} (ry : RelV y u) (rx : RelV x v) (fy : flatV y = true) (fx : flatV x = true) : SeqAt.EqAt A s u v (eqV y x) := by
  cases y with
  | non =>
    cases ry
    cases x with
    | non => cases rx; exact SeqAt.EqAt.same _
    | bl b => cases rx; exact SeqAt.EqAt.none_bool b
    | int b => obtain ⟨t, rfl⟩ := rx; exact SeqAt.EqAt.none_int b t
    | str b => obtain ⟨t, rfl⟩ := rx; exact SeqAt.EqAt.none_str b t
    | _ => exact absurd (show false = true from fx) Bool.false_ne_true
  | bl a =>
    cases ry
    cases x with
    | non => cases rx; exact SeqAt.EqAt.bool_none a
    | bl b => cases rx; exact SeqAt.EqAt.bool_bool a b
    | int b => obtain ⟨t, rfl⟩ := rx; exact SeqAt.EqAt.bool_int a b t
    | str b => obtain ⟨t, rfl⟩ := rx; exact SeqAt.EqAt.bool_str a b t
    | _ => exact absurd (show false = true from fx) Bool.false_ne_true
  | int a =>
    obtain ⟨t', rfl⟩ := ry
    cases x with
    | non => cases rx; exact SeqAt.EqAt.int_none a t'
    | bl b => cases rx; exact SeqAt.EqAt.int_bool a t' b
    | int b => obtain ⟨t, rfl⟩ := rx; exact SeqAt.EqAt.int_int a t' b t
    | str b => obtain ⟨t, rfl⟩ := rx; exact SeqAt.EqAt.int_str a t' b t
    | _ => exact absurd (show false = true from fx) Bool.false_ne_true
  | str a =>
    obtain ⟨t', rfl⟩ := ry
    cases x with
    | non => cases rx; exact SeqAt.EqAt.str_none a t'
    | bl b => cases rx; exact SeqAt.EqAt.str_bool a t' b
    | int b => obtain ⟨t, rfl⟩ := rx; exact SeqAt.EqAt.str_int a t' b t
    | str b => obtain ⟨t, rfl⟩ := rx; exact SeqAt.EqAt.str_str a t' b t
    | _ => exact absurd (show false = true from fx) Bool.false_ne_true
  | _ => exact absurd (show false = true from fy) Bool.false_ne_true
def eqU (x : V) (u : Value) : Bool := match u with
  | .none => eqV .non x
  | .bool b => eqV (.bl b) x
  | .int i _ => eqV (.int i) x
  | .str z _ => eqV (.str z) x
  | _ => false
theorem eqU_of {x y : V} {u : Value} (r : RelV y u) (f : flatV y = true) : eqU x u = eqV y x := by
  cases y with
  | non => cases r; rfl
  | bl b => cases r; rfl
  | int i => obtain ⟨t, rfl⟩ := r; rfl
  | str z => obtain ⟨t, rfl⟩ := r; rfl
  | _ => exact absurd (show false = true from f) Bool.false_ne_true
theorem any_eqU {x : V} : ∀ {xs : List V} {us : List Value}, Vals xs us → xs.all flatV = true → us.any (eqU x) = xs.any fun y => eqV y x
  | _, _, .nil, _ => rfl
  | y :: xs, u :: us, .cons r t, f => by
    rw [List.all_cons, Bool.and_eq_true] at f
    rw [List.any_cons, List.any_cons, eqU_of r f.1, any_eqU t f.2]
theorem mem_eqAt {A : Around} {s : Shared} {x : V} {v : Value} (rx : RelV x v) (fx : flatV x = true) : ∀ {xs : List V} {us : List Value}, Vals xs us → xs.all flatV = true → ∀ u ∈ us, SeqAt.EqAt A s u v (eqU x u)
  | _, _, .nil, _ => fun u hu => by cases hu
  | y :: xs, u :: us, .cons r t, f => fun u' hu => by
    rw [List.all_cons, Bool.and_eq_true] at f
    rcases List.mem_cons.mp hu with rfl | hu
    · rw [eqU_of r f.1]; exact eqAt_V r rx f.1 fx
    · exact mem_eqAt rx fx t f.2 u' hu
def inV (x : V) (xs : List V) : Bool := xs.any fun y => eqV y x
inductive rInI (K : PySem.W.Frag) (neg : Bool) (x : V) (y : V) (H : Hp) (Q : VK) : Prop
  | mk (p : _) (xs : _) (x0 : y = .ref p) (x1 : (SqL K H p xs ∨ SqT K H p xs)) (x2 : flatV x = true) (x3 : xs.all flatV = true) (x4 : Q (.bl (if neg then !inV x xs else inV x xs)) H) : rInI K neg x y H Q
def rIn (K : PySem.W.Frag) (neg : Bool) : R2 := fun x y H Q => rInI K neg x y H Q
theorem op_notIn_seq : OpR X (compareOp .NotIn) (rIn X.K true) := by
  intro pins s σ H x y v u Q I rx ry h
  obtain ⟨p, xs, rfl, hq, fx, fs, q⟩ := h
  cases ry
  rcases hq with hq | hq
  · obtain ⟨its, r, pl, hz⟩ := I.list hq
    refine SeqAt.notIn_listAt (eqU x) pl.isList (fun w hw => mem_eqAt rx fx r fs w (by simpa using hw)) ⟨.bl _, H, I, rfl, ?_⟩
    rw [show its.toArray.any (eqU x) = its.any (eqU x) by simp, any_eqU r fs]
    exact q
  · obtain ⟨its, r, pl, hz⟩ := I.tuple hq
    refine SeqAt.notIn_tupleAt (eqU x) pl (fun w hw => mem_eqAt rx fx r fs w (by simpa using hw)) ⟨.bl _, H, I, rfl, ?_⟩
    rw [show its.toArray.any (eqU x) = its.any (eqU x) by simp, any_eqU r fs]
    exact q
inductive r_op_notIn_strI (x : V) (y : V) (H : Hp) (Q : VK) : Prop
  | mk (i : _) (j : _) (h0_ : x = .str i) (h1_ : y = .str j) (h2_ : Q (.bl (!(!(Builtin.Str.occurrences j i 0 j.length 1).isEmpty))) H) : r_op_notIn_strI x y H Q
inductive r_call_len_seqI (K : PySem.W.Frag) (xs : List V) (H : Hp) (Q : VK) : Prop
  | mk (p : _) (ys : _) (h0_ : xs = [.ref p]) (h1_ : (SqL K H p ys ∨ SqT K H p ys)) (h2_ : Q (.int ys.length) H) : r_call_len_seqI K xs H Q
def r_call_len_seq (K : PySem.W.Frag) : List V → Hp → VK → Prop := fun xs H Q => r_call_len_seqI K xs H Q
theorem call_len_seq : CallR X (.builtin "len") (r_call_len_seq X.K) := by
  intro pins s σ H xs us Q I r h
  obtain ⟨p, ys, rfl, hq, q⟩ := h
  obtain ⟨u, rfl, rx⟩ := vals1 r
  cases rx
  have hn := line63
  rcases hq with hq | hq
  · obtain ⟨its, r', pl, hz⟩ := I.list hq
    have hlen := r'.length
    exact Calls.call_len_list pl.isList (by simp only [List.size_toArray] <;> omega) ⟨.int ys.length, H, I.tok _, ⟨s.toks + 1, by rw [List.size_toArray, hlen]⟩, q⟩
  · obtain ⟨its, r', pl, hz⟩ := I.tuple hq
    have hlen := r'.length
    exact len_tuple pl (by simp only [List.size_toArray] <;> omega) ⟨.int ys.length, H, I.tok _, ⟨s.toks + 1, by rw [List.size_toArray, hlen]⟩, q⟩
inductive r_call_len_strI (xs : List V) (H : Hp) (Q : VK) : Prop
  | mk (z : _) (h0_ : xs = [.str z]) (h1_ : z.length ≤ sizeLine) (h2_ : Q (.int z.length) H) : r_call_len_strI xs H Q
inductive r_call_list_ofI (K : PySem.W.Frag) (xs : List V) (H : Hp) (Q : VK) : Prop
  | mk (p : _) (ys : _) (h0_ : xs = [.ref p]) (h1_ : (SqL K H p ys ∨ SqT K H p ys)) (h2_ : ∀ l, H l = none → Q (.ref l) (upd H l (.lst ys))) : r_call_list_ofI K xs H Q
def r_call_list_of (K : PySem.W.Frag) : List V → Hp → VK → Prop := fun xs H Q => r_call_list_ofI K xs H Q
theorem call_list_of : CallR X (.type "list") (r_call_list_of X.K) := by
  intro pins s σ H xs us Q I r h
  obtain ⟨p, ys, rfl, hq, q⟩ := h
  obtain ⟨u, rfl, rx⟩ := vals1 r
  cases rx
  have fin : ∀ (its : List Value), Vals ys its → ys.length ≤ sizeLine → ∀ (h' : Heap) (c' : Nat), (∀ b o', s.heap.get? b = some o' → h'.get? b = some o') →
      h'.get? s.heap.objs.size = some { cls := .type "list", dict := none, data := .seq its.toArray c', slots := #[] } → EP X pins σ Q (.ref s.heap.objs.size) { s with heap := h' } := fun its r' hz h' c' kp e =>
    ⟨.ref s.heap.objs.size, _, I.laid (t' := s.toks) kp (Nat.le_refl _) (show ObjOk X.prog X.w _ h' _ (.lst ys) from ⟨hz, its, c', r', e⟩), rfl, q _ (I.hok.fresh (Nat.le_refl _))⟩
  rcases hq with hq | hq
  · obtain ⟨its, r', pl, hz⟩ := I.list hq
    have hlen := r'.length
    obtain ⟨o, ho, hc, n, hd⟩ := pl.isList
    exact call_list_seq p (.inl rfl) ho hc hd (fun h' c' kp e => fin its r' hz h' c' kp e) (by simp only [List.size_toArray] <;> omega)
  · obtain ⟨its, r', pl, hz⟩ := I.tuple hq
    have hlen := r'.length
    obtain ⟨o, ho, hc, n, hd⟩ := pl
    exact call_list_seq p (.inr rfl) ho hc hd (fun h' c' kp e => fin its r' hz h' c' kp e) (by simp only [List.size_toArray] <;> omega)
inductive r_call_tuple_ofI (K : PySem.W.Frag) (xs : List V) (H : Hp) (Q : VK) : Prop
  | mk (p : _) (ys : _) (h0_ : xs = [.ref p]) (h1_ : ((SqL K H p ys ∧ ∀ l, H l = none → Q (.ref l) (upd H l (.tup ys))) ∨ (SqT K H p ys ∧ Q (.ref p) H))) : r_call_tuple_ofI K xs H Q
def tyV (K : PySem.W.Frag) (T : String) (x : V) (H : Hp) : Prop := match x with
  | .str _ => T = "str"
  | .int _ => T = "int"
  | .ref p => (T = "list" ∧ ∃ xs, SqL K H p xs) ∨ (T = "tuple" ∧ ∃ o, K.lookup p = some o ∧ o.cls = .type "tuple" ∧ o.dict = none) ∨
      (T = "dict" ∧ ((∃ kvs, H p = some (.dK kvs)) ∨ ∃ kvs, H p = some (.dT kvs))) ∨ (T = "set" ∧ ∃ S n, H p = some (.set S n))
  | _ => False
theorem tyV_is {pins : List (Addr × Obj)} {σ : St} {H : Hp} {s : Shared} {T : String} {x : V} {v : Value} (I : Inv X pins σ H s) (r : RelV x v) (ty : tyV X.K T x H) :
    s.TypeIs v T ∧ ∀ a, v = .ref a → ∃ ob, s.heap.get? a = some ob ∧ ob.dict = none := by
  cases x with
  | str z =>
    obtain ⟨t, rfl⟩ := r
    cases (show T = "str" from ty)
    exact ⟨typeIs_str s z t, fun _ e => nomatch e⟩
  | int i =>
    obtain ⟨t, rfl⟩ := r
    cases (show T = "int" from ty)
    exact ⟨typeIs_int s i t, fun _ e => nomatch e⟩
  | ref p =>
    cases r
    rcases ty with ⟨rfl, xs, hq⟩ | ⟨rfl, o, hk, hc, hd⟩ | ⟨rfl, hk⟩ | ⟨rfl, S, n, hk⟩
    · obtain ⟨its, _, pl, _⟩ := I.list hq
      refine ⟨pl.isList.typeIs, fun a e => ?_⟩
      cases e
      obtain ⟨o, n, e, c, hd, _⟩ := pl
      exact ⟨o, e, hd⟩
    · refine ⟨⟨o, I.kIn p o hk, hc⟩, fun a e => ?_⟩
      cases e
      exact ⟨o, I.kIn _ o hk, hd⟩
    · have z : ∃ o, s.heap.get? p = some o ∧ o.ExactDict := by
        rcases hk with ⟨kvs, hk⟩ | ⟨kvs, hk⟩
        · obtain ⟨_, _, _, _, o, _, _, e, ex, _⟩ := I.hok p _ hk
          exact ⟨o, e, ex⟩
        · obtain ⟨_, _, _, _, o, _, _, e, ex, _⟩ := I.hok p _ hk
          exact ⟨o, e, ex⟩
      obtain ⟨o, e, ex⟩ := z
      refine ⟨⟨o, e, ex.1⟩, fun a e2 => ?_⟩
      cases e2
      exact ⟨o, e, ex.2.1⟩
    · obtain ⟨o, _, _, _, e, ex, _⟩ := I.hok p _ hk
      refine ⟨⟨o, e, ex.1⟩, fun a e2 => ?_⟩
      cases e2
      exact ⟨o, e, ex.2.1⟩
  | _ => exact False.elim ty
def tBM0 (K : PySem.W.Frag) (T : String) (r : V → List V → Hp → VK → Prop) (to : TE) : TE := fun σ H Q => to σ H fun x H1 => tyV K T x H1 ∧ r x [] H1 Q
def tBM (K : PySem.W.Frag) (T : String) (r : V → List V → Hp → VK → Prop) (to : TE) (t : TA) : TE := fun σ H Q => to σ H fun x H1 => tyV K T x H1 ∧ t σ H1 fun xs H2 => r x xs H2 Q
variable {o e : Expr} {es : List Expr} {to : TE} {t : TA} {name : Str} {apos cpos : Pos} {T id : String} {r : V → List V → Hp → VK → Prop}
theorem pe_bm0 (pa : PlainAttrs T) (slot : Slot T name id) (hty : typeOf (.builtin id) = pure (.type "method_descriptor")) (hm : MtR X id r) (ho : PE X o to)
    (hbase : attributeBase o name X.env (eval o X.env) = eval o X.env := by rfl) (hline : (apos.endLine == cpos.line) = true := by rfl) : PE X (.Call (.Attribute o name apos) [] [] cpos) (tBM0 X.K T r to) := by
  intro pins s σ H Q I h
  refine wpAny_Call_method0_late hbase hline (thn (ho pins s σ H _ I h) fun v s1 ⟨x, H1, I1, r1, ty, q1⟩ => ?_)
  obtain ⟨h1, h2⟩ := tyV_is I1 r1 ty
  exact ⟨T, id, pa, slot, hty, h1, h2, Calls.callWith_builtin rfl (PySem.evalArgs_none (hm pins s1 σ H1 x [] v [] Q I1 r1 .nil q1))⟩
theorem pe_bm (pa : PlainAttrs T) (slot : Slot T name id) (hty : typeOf (.builtin id) = pure (.type "method_descriptor")) (hm : MtR X id r) (ho : PE X o to) (ha : PA X (e :: es) t)
    (hbase : attributeBase o name X.env (eval o X.env) = eval o X.env := by rfl)
    (hfew : ((backTo cpos (starEach (e :: es) X.env)).all (fun x => !x.1) && (backToKw cpos (keywordEach [] X.env)).all (fun x => x.1.isSome)
      && decide ((e :: es).length + ([] : List Keyword).length + (if ([] : List Keyword).isEmpty then 0 else 1) < 30)) = true := by rfl)
    (hline : (apos.endLine == cpos.line) = true := by rfl) (hs : starEach (e :: es) X.env = (false, eval e X.env) :: starEach es X.env := by rfl) (hplain : (backTo cpos (starEach es X.env)).any (·.1) = false := by rfl) :
    PE X (.Call (.Attribute o name apos) (e :: es) [] cpos) (tBM X.K T r to t) := by
  intro pins s σ H Q I h
  refine wpAny_Call_method_late hbase hfew hline rfl (thn (ho pins s σ H _ I h) fun v s1 ⟨x, H1, I1, r1, ty, q1⟩ => ?_)
  obtain ⟨h1, h2⟩ := tyV_is I1 r1 ty
  refine ⟨T, id, pa, slot, hty, h1, h2, ?_⟩
  have hA := ha cpos pins s1 σ H1 _ I1 q1
  rw [hs] at hA ⊢
  refine Calls.callWith_builtin (by show (false || (backTo cpos (starEach es X.env)).any (·.1)) = false; rw [hplain] <;> rfl) (Calls.evalArgs_plain ?_)
  exact thn hA fun us s2 zq => zq.elim fun vs H2 I2 r2 q2 => hm pins s2 σ H2 x vs v us Q I2 r1 r2 q2
/- xs.append(e), list.index on a module's tuple .. are MtR facts of 06m -/
end
end L2

namespace L2
open PySem PySem.Spec PyProof.Rows

def MtM (X : Cx) (id : String) (r : V → List V → Hp → VK → Prop) : Prop :=
  ∀ (pins : List (Addr × Obj)) (s : Shared) (σ : St) (H : Hp) (x : V) (xs : List V) (v : Value) (us : List Value) (Q : VK), Inv X pins σ H s → RelV x v → Vals xs us → r x xs H Q →
    wpAny (model X.prog X.w) X.A (call (.builtin id) (v :: us)) (EP X pins σ Q) X.xe s

theorem Vals.zero {us : List Value} (r : Vals [] us) : us = [] := List.eq_nil_of_length_eq_zero (Paired.length r).symm
theorem Vals.one {x : V} {us : List Value} (r : Vals [x] us) : ∃ u, us = [u] ∧ RelV x u := by
  obtain ⟨u, ur, rfl, h, t⟩ := r.inv
  rw [t.zero]
  exact ⟨u, rfl, h⟩
theorem Vals.two {x y : V} {us : List Value} (r : Vals [x, y] us) : ∃ u v, us = [u, v] ∧ RelV x u ∧ RelV y v := by
  obtain ⟨u, ur, rfl, h, t⟩ := r.inv
  obtain ⟨v, rfl, h2⟩ := t.one
  exact ⟨u, v, rfl, h, h2⟩
theorem Vals.dropLast {xs : List V} {us : List Value} (h : Vals xs us) : Vals xs.dropLast us.dropLast := by
  induction h with
  | nil => exact .nil
  | cons r t ih =>
    cases t with
    | nil => exact .nil
    | cons q t' => exact .cons r ih
theorem erase_last {α : Type} (l : List α) : l.eraseIdx (l.length - 1) = l.dropLast := List.eraseIdx_length_sub_one
section
variable {X : Cx} {pins : List (Addr × Obj)} {σ : St} {H : Hp} {s : Shared} {l b : Addr} {xs ys zs : List V}

theorem Inv.lset {its its' : List Value} {n : Nat} {f : Array Value → Array Value} {t' : Nat} (I : Inv X pins σ H s) (hH : H l = some (.lst xs))
    (e : s.heap.get? l = some { cls := .type "list", data := .seq its.toArray n }) (hf : f its.toArray = its'.toArray) (hv : Vals ys its') (hz : ys.length ≤ sizeLine) :
    Inv X pins σ (upd H l (.lst ys)) { s with heap := s.heap.update l (Obj.mapSeq f), toks := t' } := by
  have q := PySem.IsL.update e f
  rw [hf] at q
  refine I.write (x := l) (e := l) (by rw [hH]; exact trivial) (.inl rfl) (fun b' u hb hu => (Heap.get?_update_other s.heap (Obj.mapSeq f) (Ne.symm hb)).trans hu) ⟨_, q⟩ ?_
  exact ⟨hz, its', _, hv, q⟩
theorem Inv.lnew {its : List Value} {t' : Nat} (I : Inv X pins σ H s) (hv : Vals ys its) (hz : ys.length ≤ sizeLine) :
    Inv X pins σ (upd H s.heap.objs.size (.lst ys)) { s with heap := s.heap.push { cls := .type "list", data := .seq its.toArray }, toks := t' } :=
  I.laid (fun _ _ q => Heap.get?_push_of_some _ q) (Nat.le_refl _) ⟨hz, its, 0, hv, Heap.get?_push_size _ rfl⟩
theorem Inv.fresh (I : Inv X pins σ H s) : H s.heap.objs.size = none := I.hok.fresh (Nat.le_refl _)
theorem Inv.lstM (I : Inv X pins σ H s) (hH : H l = some (.lst xs)) : xs.length ≤ sizeLine ∧ ∃ (its : List Value) (n : Nat), Vals xs its ∧ xs.length = its.length ∧ s.heap.get? l = some { cls := .type "list", data := .seq its.toArray n } := by
  obtain ⟨z, its, n, r, e⟩ := I.hok l _ hH
  exact ⟨z, its, n, r, r.length, e⟩

theorem notLongL {n : Nat} (h : n ≤ sizeLine) : Builtin.List.listTooLong n = false := by
  unfold Builtin.List.listTooLong
  exact decide_eq_false (by omega)
end

section
variable {X : Cx}

inductive rAppendI (x : V) (vs : List V) (H : Hp) (Q : VK) : Prop
  | mk (l : _) (xs : _) (y : _) (x0 : x = .ref l) (x1 : vs = [y]) (x2 : H l = some (.lst xs)) (x3 : xs.length < sizeLine) (x4 : Q .non (upd H l (.lst (xs ++ [y])))) : rAppendI  x vs H Q
def rAppend : V → List V → Hp → VK → Prop := fun x vs H Q => rAppendI  x vs H Q
theorem mt_append : MtM X "list.append" rAppend := by
  intro pins s σ H x vs v us Q I rx rv h
  obtain ⟨l, xs, y, rfl, rfl, hH, hz, q⟩ := h
  cases rx
  obtain ⟨u, rfl, ru⟩ := rv.one
  obtain ⟨z, its, n, r, hl, e⟩ := I.lstM hH
  refine call_meets F.slot_list_append ⟨_, e, rfl⟩ F.entry_list_append (F.args_list_append_2 _ _) (PySem.list_append l its.toArray n u (by rw [List.size_toArray]; omega)) ⟨e, ?_⟩
  refine ⟨.non, _, I.lset (its' := its ++ [u]) hH e (by simp) (r.append (.cons ru .nil)) ?_, rfl, q⟩
  rw [List.length_append, List.length_singleton]
  omega

inductive rExtendI (x : V) (vs : List V) (H : Hp) (Q : VK) : Prop
  | mk (l : _) (b : _) (xs : _) (zs : _) (x0 : x = .ref l) (x1 : vs = [.ref b]) (x2 : H l = some (.lst xs)) (x3 : H b = some (.lst zs)) (x4 : xs.length + zs.length ≤ sizeLine) (x5 : Q .non (upd H l (.lst (xs ++ zs)))) : rExtendI  x vs H Q
def rExtend : V → List V → Hp → VK → Prop := fun x vs H Q => rExtendI  x vs H Q
theorem mt_extend : MtM X "list.extend" rExtend := by
  intro pins s σ H x vs v us Q I rx rv h
  obtain ⟨l, b, xs, zs, rfl, rfl, hH, hB, hz, q⟩ := h
  cases rx
  obtain ⟨u, rfl, ru⟩ := rv.one
  cases ru
  obtain ⟨z, its, n, r, hl, e⟩ := I.lstM hH
  obtain ⟨z2, its2, n2, r2, hl2, e2⟩ := I.lstM hB
  have hsz : its.toArray.size + its2.toArray.size ≤ sizeLine := by rw [List.size_toArray, List.size_toArray]; omega
  have hlong : ¬ (!its.toArray.isEmpty && Builtin.List.listTooLong (its.toArray.size + its2.toArray.size)) = true := by
    rw [notLongL hsz, Bool.and_false]
    exact Bool.false_ne_true
  refine call_meets F.slot_list_extend ⟨_, e, rfl⟩ F.entry_list_extend (F.args_list_extend_2 _ _)
    (AutoSeq1.list_extend_list_list_0 l its.toArray n b its2.toArray n2 hlong (by rw [List.size_toArray]; omega) (by omega)) ⟨e, e2, ?_⟩
  refine ⟨.non, _, I.lset (its' := its ++ its2) hH e (by simp) (r.append r2) ?_, rfl, q⟩
  rw [List.length_append]
  omega

inductive rPopI (x : V) (vs : List V) (H : Hp) (Q : VK) : Prop
  | mk (l : _) (xs : _) (y : _) (x0 : x = .ref l) (x1 : vs = []) (x2 : H l = some (.lst xs)) (x3 : xs[xs.length - 1]? = some y) (x4 : Q y (upd H l (.lst xs.dropLast))) : rPopI  x vs H Q
def rPop : V → List V → Hp → VK → Prop := fun x vs H Q => rPopI  x vs H Q
theorem mt_pop : MtM X "list.pop" rPop := by
  intro pins s σ H x vs v us Q I rx rv h
  obtain ⟨l, xs, y, rfl, rfl, hH, hy, q⟩ := h
  cases rx
  have hus := rv.zero
  subst hus
  obtain ⟨z, its, n, r, hl, e⟩ := I.lstM hH
  obtain ⟨u, hu, ru⟩ := r.get hy
  have hy' : its.toArray[its.toArray.size - 1]? = some u := by
    show its.toArray[its.length - 1]? = some u
    rw [← Array.getElem?_toList, ← hl]
    exact hu
  refine call_meets F.slot_list_pop ⟨_, e, rfl⟩ F.entry_list_pop (F.args_list_pop_1 _) (MeetsSeq.list_pop_last l its.toArray n u hy' (by rw [List.size_toArray]; omega)) ⟨e, ?_⟩
  refine ⟨y, _, I.lset (its' := its.dropLast) hH e ?_ r.dropLast ?_, ru, q⟩
  · show its.toArray.eraseIdxIfInBounds (its.toArray.size - 1) = its.dropLast.toArray
    rw [List.size_toArray, List.eraseIdxIfInBounds_toArray, erase_last]
  · rw [List.length_dropLast]
    omega

inductive rPopAtI (x : V) (vs : List V) (H : Hp) (Q : VK) : Prop
  | mk (l : _) (xs : _) (i : _) (k : _) (y : _) (x0 : x = .ref l) (x1 : vs = [.int i]) (x2 : H l = some (.lst xs)) (x3 : -(2 ^ 63) ≤ i) (x4 : i < 2 ^ 63) (x5 : seqIndex? i xs.length = some k) (x6 : xs[k]? = some y) (x7 : Q y (upd H l (.lst (xs.eraseIdx k)))) : rPopAtI  x vs H Q
inductive rReverseI (x : V) (vs : List V) (H : Hp) (Q : VK) : Prop
  | mk (l : _) (xs : _) (x0 : x = .ref l) (x1 : vs = []) (x2 : H l = some (.lst xs)) (x3 : Q .non (upd H l (.lst xs.reverse))) : rReverseI  x vs H Q
inductive rClearI (x : V) (vs : List V) (H : Hp) (Q : VK) : Prop
  | mk (l : _) (xs : _) (x0 : x = .ref l) (x1 : vs = []) (x2 : H l = some (.lst xs)) (x3 : Q .non (upd H l (.lst []))) : rClearI  x vs H Q
inductive rCatI (x : V) (y : V) (H : Hp) (Q : VK) : Prop
  | mk (l : _) (b : _) (xs : _) (zs : _) (x0 : x = .ref l) (x1 : y = .ref b) (x2 : H l = some (.lst xs)) (x3 : H b = some (.lst zs)) (x4 : xs.length + zs.length ≤ sizeLine) (x5 : ∀ p, H p = none → Q (.ref p) (upd H p (.lst (xs ++ zs)))) : rCatI  x y H Q
def rCat : R2 := fun x y H Q => rCatI  x y H Q
theorem op_cat : OpR X (binaryOp .Add) rCat := by
  intro pins s σ H x y v u Q I rx ry h
  obtain ⟨l, b, xs, zs, rfl, rfl, hH, hB, hz, q⟩ := h
  cases rx
  cases ry
  obtain ⟨z, its, n, r, hl, e⟩ := I.lstM hH
  obtain ⟨z2, its2, n2, r2, hl2, e2⟩ := I.lstM hB
  refine PySem.P.add_list e e2 ?_ (by rw [List.size_toArray, List.size_toArray]; omega)
  have ea : its.toArray ++ its2.toArray = (its ++ its2).toArray := by simp
  rw [ea]
  exact ⟨.ref _, _, I.lnew (t' := s.toks) (r.append r2) (by rw [List.length_append]; omega), rfl, q _ I.fresh⟩
inductive rRepI (x : V) (y : V) (H : Hp) (Q : VK) : Prop
  | mk (l : _) (k : _) (xs : _) (x0 : x = .ref l) (x1 : y = .int k) (x2 : H l = some (.lst xs)) (x3 : -(2 ^ 63) ≤ k) (x4 : k < 2 ^ 63) (x5 : xs.length * k.toNat ≤ sizeLine) (x6 : ∀ p, H p = none → Q (.ref p) (upd H p (.lst (List.replicate k.toNat xs).flatten))) : rRepI  x y H Q
end

section
variable {prog : Program} {w : World} {A : Around} {E : Value → Shared → Prop} {s : Shared}
end

section
variable {X : Cx}
end
end L2

namespace L2
open PySem PySem.Spec PyProof.Rows

section
variable {κ : Type} [DecidableEq κ]
def valV (kvs : List (κ × V)) (k : κ) : Option V := (kvs.find? fun kv => decide (kv.1 = k)).map (·.2)
def putK (kvs : List (κ × V)) (k : κ) (v : V) : List (κ × V) :=
  if (kvs.any fun kv => decide (kv.1 = k)) = true then kvs.map (fun kv => if kv.1 = k then (kv.1, v) else kv) else kvs ++ [(k, v)]
def dropK (kvs : List (κ × V)) (k : κ) : List (κ × V) := kvs.filter fun kv => decide (kv.1 ≠ k)

theorem valV_nil {k : κ} : valV ([] : List (κ × V)) k = none := rfl
theorem valV_pos {p : κ × V} {r : List (κ × V)} {k : κ} (e : p.1 = k) : valV (p :: r) k = some p.2 := by simp [valV, List.find?_cons, e]
theorem valV_neg {p : κ × V} {r : List (κ × V)} {k : κ} (e : ¬ p.1 = k) : valV (p :: r) k = valV r k := by simp [valV, List.find?_cons, e]
theorem valV_any (k : κ) : ∀ kvs : List (κ × V), (kvs.any fun kv => decide (kv.1 = k)) = (valV kvs k).isSome
  | [] => rfl
  | p :: r => by
    rw [List.any_cons]
    by_cases e : p.1 = k
    · simp only [valV_pos e, decide_eq_true e, Bool.true_or, Option.isSome_some]
    · rw [valV_neg e, decide_eq_false e, Bool.false_or]; exact valV_any k r
theorem length_putK (kvs : List (κ × V)) (k : κ) (v : V) : (putK kvs k v).length ≤ kvs.length + 1 := by
  unfold putK
  split
  · rw [List.length_map]; omega
  · rw [List.length_append, List.length_cons, List.length_nil]; omega
theorem putK_new {kvs : List (κ × V)} {k : κ} (v : V) (h : valV kvs k = none) : putK kvs k v = kvs ++ [(k, v)] := by
  unfold putK
  rw [valV_any, h]
  exact if_neg (by decide)

theorem RelO.isSome_eq {o : Option V} {u : Option Value} (r : RelO o u) : o.isSome = u.isSome := by
  cases o with
  | none => cases u with
    | none => rfl
    | some _ => exact (show False from r).elim
  | some _ => cases u with
    | none => exact (show False from r).elim
    | some _ => rfl
theorem KV.val {kvs : List (κ × V)} {vs : List (κ × Value)} (r : KV kvs vs) (k : κ) : RelO (valV kvs k) (valueAt vs k) := by
  unfold KV at r
  induction r with
  | nil => exact True.intro
  | @cons p q ps qs h t ih =>
    obtain ⟨h1, h2⟩ := h
    by_cases e : p.1 = k
    · have e' : q.1 = k := h1.symm.trans e
      have b : valueAt (q :: qs) k = some q.2 := by simp [valueAt, List.find?_cons, e']
      rw [valV_pos e, b]; exact h2
    · have e' : ¬ q.1 = k := fun z => e (h1.trans z)
      have b : valueAt (q :: qs) k = valueAt qs k := by simp [valueAt, List.find?_cons, e']
      rw [valV_neg e, b]; exact ih
theorem KV.any {kvs : List (κ × V)} {vs : List (κ × Value)} (r : KV kvs vs) (k : κ) : (kvs.any fun kv => decide (kv.1 = k)) = vs.any fun kv => decide (kv.1 = k) := by
  unfold KV at r
  induction r with
  | nil => rfl
  | cons h t ih => rw [List.any_cons, List.any_cons, ih, h.1]
theorem KV.repl {kvs : List (κ × V)} {vs : List (κ × Value)} (r : KV kvs vs) (k : κ) {y : V} {u : Value} (ry : RelV y u) :
    KV (kvs.map fun kv => if kv.1 = k then (kv.1, y) else kv) (vs.map fun kv => if kv.1 = k then (kv.1, u) else kv) := by
  unfold KV at r ⊢
  induction r with
  | nil => exact .nil
  | @cons p q ps qs h t ih =>
    rw [List.map_cons, List.map_cons]
    refine .cons ?_ ih
    obtain ⟨h1, h2⟩ := h
    by_cases e : p.1 = k
    · rw [if_pos e, if_pos (h1.symm.trans e)]; exact ⟨h1, ry⟩
    · rw [if_neg e, if_neg (fun z => e (h1.trans z))]; exact ⟨h1, h2⟩
theorem KV.put {kvs : List (κ × V)} {vs : List (κ × Value)} (r : KV kvs vs) (k : κ) {y : V} {u : Value} (ry : RelV y u) : KV (putK kvs k y) (stored vs k u) := by
  unfold putK stored
  rw [r.any k]
  by_cases e : (vs.any fun kv => decide (kv.1 = k)) = true
  · rw [if_pos e, if_pos e]; exact r.repl k ry
  · rw [if_neg e, if_neg e]; exact Paired.snoc r ⟨rfl, ry⟩
theorem KV.keys {kvs : List (κ × V)} {vs : List (κ × Value)} (r : KV kvs vs) : kvs.map (·.1) = vs.map (·.1) := by
  unfold KV at r
  induction r with
  | nil => rfl
  | cons h t ih => rw [List.map_cons, List.map_cons, ih, h.1]
theorem KV.length {kvs : List (κ × V)} {vs : List (κ × Value)} (r : KV kvs vs) : kvs.length = vs.length := Paired.length r
end


theorem kV_is {P : Program} {w : World} {k : Key} {u : Value} (r : RelV (kV k) u) : (mixKind P w).is k u = true := by
  cases k with
  | inl i => obtain ⟨t, e⟩ := (show ∃ t, u = Value.int i t from r); subst e; exact mixKind_int P w i t
  | inr x => obtain ⟨t, e⟩ := (show ∃ t, u = Value.str x t from r); subst e; exact mixKind_str P w x t
theorem items_are {P : Program} {w : World} : ∀ {ks : List Key} {us : List Value}, Vals (ks.map kV) us → ItemsAre (mixKind P w) ks us
  | [], _, r => by rw [List.map_nil] at r; cases r; exact .nil
  | k :: ks, _, r => by
    rw [List.map_cons] at r
    cases r with
    | cons h t => exact .cons (kV_is h) (items_are t)

abbrev KT (H : Hp) : List (List Key × V) → List (List Key × Addr × Value) → Prop := Paired fun p q => p.1 = q.1 ∧ H q.2.1 = some (.tup (p.1.map kV)) ∧ RelV p.2 q.2.2
theorem KT.val {H : Hp} {kvs : List (List Key × V)} {xs : List (List Key × Addr × Value)} (r : KT H kvs xs) (k : List Key) : RelO (valV kvs k) ((atKey xs k).map (·.2)) := by
  induction r with
  | nil => exact True.intro
  | @cons p q ps qs h t ih =>
    obtain ⟨h1, _, h2⟩ := h
    by_cases e : p.1 = k
    · have e' : q.1 = k := h1.symm.trans e
      have b : atKey (q :: qs) k = some q.2 := by simp [atKey, List.find?_cons, e']
      rw [valV_pos e, b]; exact h2
    · have e' : ¬ q.1 = k := fun z => e (h1.trans z)
      have b : atKey (q :: qs) k = atKey qs k := by simp [atKey, List.find?_cons, e']
      rw [valV_neg e, b]; exact ih
theorem KT.repl {H : Hp} {kvs : List (List Key × V)} {xs : List (List Key × Addr × Value)} (r : KT H kvs xs) (k : List Key) {y : V} {u : Value} (ry : RelV y u) :
    KT H (kvs.map fun kv => if kv.1 = k then (kv.1, y) else kv) (xs.map (putAt k u)) := by
  induction r with
  | nil => exact .nil
  | @cons p q ps qs h t ih =>
    rw [List.map_cons, List.map_cons]
    refine .cons ?_ ih
    obtain ⟨h1, h2, h3⟩ := h
    unfold putAt
    by_cases e : p.1 = k
    · rw [if_pos e, if_pos (h1.symm.trans e)]; exact ⟨h1, h2, ry⟩
    · rw [if_neg e, if_neg (fun z => e (h1.trans z))]; exact ⟨h1, h2, h3⟩
theorem KT.put {H : Hp} {kvs : List (List Key × V)} {xs : List (List Key × Addr × Value)} (r : KT H kvs xs) (k : List Key) {b : Addr} {y : V} {u : Value} (hb : H b = some (.tup (k.map kV))) (ry : RelV y u) :
    KT H (putK kvs k y) (storedH xs k b u) := by
  have e : (kvs.any fun kv => decide (kv.1 = k)) = (atKey xs k).isSome := by
    rw [valV_any, (r.val k).isSome_eq, Option.isSome_map]
  unfold putK storedH
  rw [e]
  by_cases q : (atKey xs k).isSome = true
  · rw [if_pos q, if_pos q]; exact r.repl k ry
  · rw [if_neg q, if_neg q]; exact Paired.snoc r ⟨rfl, hb, ry⟩
theorem KT.keeps {H H' : Hp} {kvs : List (List Key × V)} {xs : List (List Key × Addr × Value)} (r : KT H kvs xs) (ht : ∀ b ys, H b = some (.tup ys) → H' b = some (.tup ys)) : KT H' kvs xs :=
  Paired.mapP r fun _ _ z => ⟨z.1, ht _ _ z.2.1, z.2.2⟩

section
variable {P : Program} {w : World} {H : Hp} {h : Heap} {a : Addr}
theorem rd_of {u : HO} (ok : HOk P w H h) (e : Rd H a u) : ObjOk P w H h a u := e.ok ok
theorem dk_rd {kvs : List (Key × V)} (ok : HOk P w H h) (e : Rd H a (.dK kvs)) : kvs.length ≤ sizeLine ∧ (a == sysModules) = false ∧ ∃ vs, KV kvs vs ∧ h.DictOf (mixKind P w) a vs :=
  show ObjOk P w H h a (.dK kvs) from rd_of ok e
theorem dk_of {kvs : List (Key × V)} (ok : HOk P w H h) (e : H a = some (.dK kvs)) : kvs.length ≤ sizeLine ∧ (a == sysModules) = false ∧ ∃ vs, KV kvs vs ∧ h.DictOf (mixKind P w) a vs := dk_rd ok (.inl e)
theorem key_of {ks : List Key} (ok : HOk P w H h) (e : H a = some (.tup (ks.map kV))) : (tupleKind (mixKind P w)).is h ks a := by
  obtain ⟨_, its, r, o, h1, h2, n, h3⟩ := (show ObjOk P w H h a (.tup (ks.map kV)) from ok a _ e)
  exact ⟨o, its.toArray, n, h1, h2, h3, by simpa using items_are r⟩
theorem dt_rd {kvs : List (List Key × V)} (ok : HOk P w H h) (e : Rd H a (.dT kvs)) : kvs.length ≤ sizeLine ∧ (a == sysModules) = false ∧
    ∃ xs, KT H kvs xs ∧ h.DictOfH (tupleKind (mixKind P w)) a xs := by
  obtain ⟨z, y, xs, r, o, es, ep, h1, h2, h3, h4, h5⟩ := (show ObjOk P w H h a (.dT kvs) from rd_of ok e)
  refine ⟨z, y, xs, r, o, es, ep, h1, h2, h3, h4, fun x hx => ?_, h5⟩
  have all : ∀ {l : List (List Key × V)} {m : List (List Key × Addr × Value)}, KT H l m → ∀ x ∈ m, (tupleKind (mixKind P w)).is h x.1 x.2.1 := by
    intro l m q
    induction q with
    | nil => intro x hx; exact nomatch hx
    | @cons p q ps qs hq t ih =>
      intro x hx
      rcases List.mem_cons.mp hx with e | hx
      · subst e
        exact key_of ok (by rw [← hq.1]; exact hq.2.1)
      · exact ih x hx
  exact all r x hx
theorem dt_of {kvs : List (List Key × V)} (ok : HOk P w H h) (e : H a = some (.dT kvs)) : kvs.length ≤ sizeLine ∧ (a == sysModules) = false ∧
    ∃ xs, KT H kvs xs ∧ h.DictOfH (tupleKind (mixKind P w)) a xs := dt_rd ok (.inl e)
end

def DGet (H : Hp) (a : Addr) (y : V) (r : Option V) : Prop :=
  (∃ kvs k, Rd H a (.dK kvs) ∧ y = kV k ∧ r = valV kvs k) ∨ ∃ kvs k b, Rd H a (.dT kvs) ∧ y = .ref b ∧ H b = some (.tup (k.map kV)) ∧ r = valV kvs k
def DPut (H : Hp) (a : Addr) (y v : V) (H' : Hp) : Prop :=
  (∃ kvs k, H a = some (.dK kvs) ∧ y = kV k ∧ kvs.length < sizeLine ∧ H' = upd H a (.dK (putK kvs k v))) ∨
  ∃ kvs k b, H a = some (.dT kvs) ∧ y = .ref b ∧ H b = some (.tup (k.map kV)) ∧ kvs.length < sizeLine ∧ H' = upd H a (.dT (putK kvs k v))
theorem DGet.k {H : Hp} {a : Addr} {kvs : List (Key × V)} {k : Key} (e : H a = some (.dK kvs)) : DGet H a (kV k) (valV kvs k) := .inl ⟨kvs, k, .inl e, rfl, rfl⟩
theorem DPut.k {H : Hp} {a : Addr} {kvs : List (Key × V)} {k : Key} {v : V} (e : H a = some (.dK kvs)) (hl : kvs.length < sizeLine) : DPut H a (kV k) v (upd H a (.dK (putK kvs k v))) := .inl ⟨kvs, k, e, rfl, hl, rfl⟩
section
variable {X : Cx} {pins : List (Addr × Obj)} {σ : St} {H : Hp} {s : Shared} {a : Addr} {y v : V} {u r : Value} {o : Option V} {A : Around} {E : Value → Shared → Prop}

theorem Inv.big (I : Inv X pins σ H s) : sysModules < s.heap.objs.size := by
  have h : mainGlobals < s.heap.objs.size := (I.mod.glob.keeps I.bk).lt
  exact Nat.lt_trans (by decide) h

theorem d_getItem {Q : Value → Shared → Prop} (hu : A.units + 1 < cLine) (I : Inv X pins σ H s) (g : DGet H a y (some v)) (ry : RelV y u) (h : ∀ w' s', Inv X pins σ H s' → RelV v w' → Q w' s') :
    wpAny (model X.prog X.w) A (getItem (.ref a) u) Q E s := by
  rcases g with ⟨kvs, k, e, ey, l⟩ | ⟨kvs, k, b, e, ey, eb, l⟩
  · subst ey
    obtain ⟨z, hd, vs, rel, dd⟩ := dk_rd I.hok e
    obtain ⟨w', hw, rw'⟩ := RelO.some_of (v := v) (o := valueAt vs k) (by rw [l]; exact rel.val k)
    exact wpAny_getItem_of (kV_is ry) dd.mapOf hw (h w' _ (I.tok _) rw')
  · subst ey
    cases (show u = Value.ref b from ry)
    obtain ⟨z, hd, xs, rel, dd⟩ := dt_rd I.hok e
    obtain ⟨w', hw, rw'⟩ := RelO.some_of (v := v) (o := (atKey xs k).map (·.2)) (by rw [l]; exact rel.val k)
    obtain ⟨p, hp, hp2⟩ := Option.map_eq_some_iff.mp hw
    refine wpAny_getItem_heap (tupleKind_room_in1 hu) (key_of I.hok eb) dd hp ?_
    rw [hp2]
    exact h w' _ (I.tok _) rw'
theorem d_in {Q : Value → Shared → Prop} (hu : A.units + 1 < cLine) (I : Inv X pins σ H s) (g : DGet H a y o) (ry : RelV y u) (h : ∀ s', Inv X pins σ H s' → Q (.bool o.isSome) s') :
    wpAny (model X.prog X.w) A (compareOp .In u (.ref a)) Q E s := by
  rcases g with ⟨kvs, k, e, ey, l⟩ | ⟨kvs, k, b, e, ey, eb, l⟩
  · subst ey
    obtain ⟨z, hd, vs, rel, dd⟩ := dk_rd I.hok e
    refine wpAny_in_of (kV_is ry) hd dd.mapOf ?_
    rw [← (rel.val k).isSome_eq, ← l]
    exact h _ (I.tok _)
  · subst ey
    cases (show u = Value.ref b from ry)
    obtain ⟨z, hd, xs, rel, dd⟩ := dt_rd I.hok e
    refine wpAny_in_heap (tupleKind_room_in1 hu) (key_of I.hok eb) hd dd ?_
    have q := (rel.val k).isSome_eq
    rw [Option.isSome_map] at q
    rw [← q, ← l]
    exact h _ (I.tok _)
theorem d_notIn {Q : Value → Shared → Prop} (hu : A.units + 1 < cLine) (I : Inv X pins σ H s) (g : DGet H a y o) (ry : RelV y u) (h : ∀ s', Inv X pins σ H s' → Q (.bool (!o.isSome)) s') :
    wpAny (model X.prog X.w) A (compareOp .NotIn u (.ref a)) Q E s := by
  rcases g with ⟨kvs, k, e, ey, l⟩ | ⟨kvs, k, b, e, ey, eb, l⟩
  · subst ey
    obtain ⟨z, hd, vs, rel, dd⟩ := dk_rd I.hok e
    refine wpAny_notIn_of (kV_is ry) hd dd.mapOf ?_
    rw [← (rel.val k).isSome_eq, ← l]
    exact h _ (I.tok _)
  · subst ey
    cases (show u = Value.ref b from ry)
    obtain ⟨z, hd, xs, rel, dd⟩ := dt_rd I.hok e
    refine wpAny_notIn_heap (tupleKind_room_in1 hu) (key_of I.hok eb) hd dd ?_
    have q := (rel.val k).isSome_eq
    rw [Option.isSome_map] at q
    rw [← q, ← l]
    exact h _ (I.tok _)
theorem d_write {h' : Heap} {t' : Nat} {ob : HO} (I : Inv X pins σ H s) (mu : Mut (H a)) (hs : Heap.SameBut a s.heap h') (he : ∃ q, h'.get? a = some q) (new : ObjOk X.prog X.w (upd H a ob) h' a ob) :
    Inv X pins σ (upd H a ob) { s with heap := h', toks := t' } :=
  I.write (x := a) (e := a) mu (.inl rfl) (fun b q hb z => (hs.2 b hb).trans z) he new
theorem dk_new {P : Program} {w : World} {H' : Hp} {h' : Heap} {kvs : List (Key × V)} {vs : List (Key × Value)} (z : kvs.length ≤ sizeLine) (hd : (a == sysModules) = false) (rel : KV kvs vs) (dd : h'.DictOf (mixKind P w) a vs) :
    ObjOk P w H' h' a (.dK kvs) := ⟨z, hd, vs, rel, dd⟩
theorem d_setItem {H' : Hp} {Q : Unit → Shared → Prop} (hu : A.units + 1 < cLine) (I : Inv X pins σ H s) (g : DPut H a y v H') (ry : RelV y u) (rv : RelV v r) (h : ∀ s', Inv X pins σ H' s' → Q () s') :
    wpAny (model X.prog X.w) A (setItem (.ref a) u r) Q E s := by
  rcases g with ⟨kvs, k, e, ey, l, eH⟩ | ⟨kvs, k, b, e, ey, eb, l, eH⟩
  · subst ey eH
    obtain ⟨z, hd, vs, rel, dd⟩ := dk_of I.hok e
    have hz : vs.length ≤ sizeLine := by rw [← rel.length]; exact z
    have hl : (putK kvs k v).length ≤ sizeLine := by have := length_putK kvs k v; omega
    refine wpAny_setItem_pairs (hsz := hz) (kV_is ry) dd fun h' dd' hs => h _ ?_
    have he : ∃ q, h'.get? a = some q := let ⟨q, _, _, hq, _⟩ := dd'; ⟨q, hq⟩
    exact d_write I (by rw [e]; exact True.intro) hs he (dk_new hl hd (rel.put k rv) dd')
  · subst ey eH
    cases (show u = Value.ref b from ry)
    obtain ⟨z, hd, xs, rel, dd⟩ := dt_of I.hok e
    have hz : xs.length ≤ sizeLine := by rw [← Paired.length rel]; exact z
    have hl : (putK kvs k v).length ≤ sizeLine := by have := length_putK kvs k v; omega
    refine wpAny_setItem_heap (hsz := hz) (tupleKind_room_in1 hu) (key_of I.hok eb) dd fun h' dd' hs => h _ ?_
    obtain ⟨q, es, ep, hq, h2, h3, h4, _, h5⟩ := dd'
    refine d_write I (by rw [e]; exact True.intro) hs ⟨q, hq⟩ ⟨hl, hd, _, (rel.put k eb rv).keeps fun c ys ec => ?_, q, es, ep, hq, h2, h3, h4, h5⟩
    rw [upd_ne (ne_of ec e (fun z => nomatch z))]
    exact ec
end

section
variable {X : Cx} {pins : List (Addr × Obj)} {σ : St} {H : Hp} {s : Shared} {a : Addr} {kvs : List (Key × V)} {k : Key} {u : Value} {A : Around} {E : Value → Shared → Prop}
end


def NoSl (i : Expr) : Prop := ∀ ov iv, subscripted i false ov iv = operate [ov, iv] (getItem ov iv)
theorem subD_of {prog : Program} {w : World} {A : Around} {E : Value → Shared → Prop} {s : Shared} {env : Env} {value slice : Expr} {pos : Pos} {T id : String} {Q : Value → Shared → Prop}
    (hl : typeLookup (.type T) "__getitem__" = pure (some (.builtin id))) (hs : NoSl slice)
    (h : wpAny (model prog w) A (eval value env) (fun o s₁ => wpAny (model prog w) A (eval slice env) (fun i s₂ => s₂.TypeIs o T ∧ wpAny (model prog w) A (getItem o i) Q E s₂) E s₁) E s) :
    wpAny (model prog w) A (eval (.Subscript value slice pos) env) Q E s := by
  refine Subscript_ (wpAny_mono h (fun o s₁ h₁ => wpAny_mono h₁ (fun i s₂ h₂ => ?_) fun _ _ x => x) fun _ _ x => x)
  obtain ⟨hT, h₂⟩ := h₂
  unfold subscriptTail
  refine wpAny_bind ?_
  rw [getitemInPython_of_ne hT.not_modules]
  refine wpAny_bind (wpAny_specialOf hT hl ?_)
  have fin : wpAny (model prog w) A (subscripted slice false o i) (fun r s₃ => wpAny (model prog w) A (letTemporaryGo value o r >>= fun _ => pure r) Q E s₃) E s₂ := by
    rw [hs o i]
    exact wpAny_operating (wpAny_mono h₂ (fun r s₃ h₃ => wpAny_bind (wpAny_letTemporaryGo (wpAny_pure h₃))) fun _ _ x => x)
  first
    | exact wpAny_pure (wpAny_bind fin)
    | exact wpAny_bind (wpAny_pure (wpAny_bind fin))
    | exact wpAny_bind fin

theorem dict_typeIs {X : Cx} {pins : List (Addr × Obj)} {σ : St} {H : Hp} {s : Shared} {a : Addr} {y : V} {o : Option V} (I : Inv X pins σ H s) (g : DGet H a y o) : s.TypeIs (.ref a) "dict" := by
  rcases g with ⟨kvs, k, e, _, _⟩ | ⟨kvs, k, b, e, _, _, _⟩
  · obtain ⟨_, _, vs, _, dd⟩ := dk_rd I.hok e
    exact dd.typeIs
  · obtain ⟨_, _, xs, _, dd⟩ := dt_rd I.hok e
    exact dd.typeIs
inductive DgQ (x y : V) (H : Hp) (Q : VK) : Prop
  | mk (a : Addr) (v : V) (e : x = .ref a) (g : DGet H a y (some v)) (q : Q v H) : DgQ x y H Q
inductive DiQ (x y : V) (H : Hp) (Q : VK) : Prop
  | mk (a : Addr) (o : Option V) (e : x = .ref a) (g : DGet H a y o) (q : Q (.bl o.isSome) H) : DiQ x y H Q
inductive DnQ (x y : V) (H : Hp) (Q : VK) : Prop
  | mk (a : Addr) (o : Option V) (e : x = .ref a) (g : DGet H a y o) (q : Q (.bl (!o.isSome)) H) : DnQ x y H Q
def tDGet (td ty : TE) : TE := fun σ H Q => td σ H fun x H1 => ty σ H1 fun y H2 => DgQ x y H2 Q
def tDIn (ty td : TE) : TE := fun σ H Q => ty σ H fun y H1 => td σ H1 fun x H2 => DiQ x y H2 Q
def tDNotIn (ty td : TE) : TE := fun σ H Q => ty σ H fun y H1 => td σ H1 fun x H2 => DnQ x y H2 Q
def sDPut (td ty tv : TE) : TS := fun D σ H => tv σ H fun v H1 => td σ H1 fun x H2 => ty σ H2 fun y H3 => ∃ a H4, x = .ref a ∧ DPut H3 a y v H4 ∧ D.nx σ H4
section
variable {X : Cx} {o i e value : Expr} {pos pos' tpos : Pos} {td ty tv : TE}
theorem pe_dget (hu : X.A.units + 1 < cLine) (ho : PE X o td) (hi : PE X i ty) (hs : NoSl i) : PE X (.Subscript o i pos) (tDGet td ty) := by
  intro pins s σ H Q I h
  refine subD_of PySem.F.slot_dict_getitem.lookup hs (thn (ho pins s σ H _ I h) fun u s1 zq => zq.elim fun x H1 I1 rx q1 => thn (hi pins s1 σ H1 _ I1 q1) fun iv s2 ⟨y, H2, I2, ry, a, v, ex, g, q2⟩ => ?_)
  subst ex
  obtain rfl : u = Value.ref a := rx
  exact ⟨dict_typeIs I2 g, d_getItem hu I2 g ry fun w' s3 I3 rw' => ⟨v, H2, I3, rw', q2⟩⟩
theorem pc_din (hu : X.A.units + 1 < cLine) (hi : PE X i ty) (ho : PE X o td) : PC X .In i o (tDIn ty td) := by
  intro pins s σ H Q I h
  refine thn (hi pins s σ H _ I h) fun iv s1 zq => zq.elim fun y H1 I1 ry q1 => thn (ho pins s1 σ H1 _ I1 q1) fun u s2 ⟨x, H2, I2, rx, a, ov, ex, g, q2⟩ => ?_
  subst ex
  obtain rfl : u = Value.ref a := rx
  exact d_in hu I2 g ry fun s3 I3 => ⟨.bl ov.isSome, H2, I3, rfl, q2⟩
theorem pc_dnotin (hu : X.A.units + 1 < cLine) (hi : PE X i ty) (ho : PE X o td) : PC X .NotIn i o (tDNotIn ty td) := by
  intro pins s σ H Q I h
  refine thn (hi pins s σ H _ I h) fun iv s1 zq => zq.elim fun y H1 I1 ry q1 => thn (ho pins s1 σ H1 _ I1 q1) fun u s2 ⟨x, H2, I2, rx, a, ov, ex, g, q2⟩ => ?_
  subst ex
  obtain rfl : u = Value.ref a := rx
  exact d_notIn hu I2 g ry fun s3 I3 => ⟨.bl (!ov.isSome), H2, I3, rfl, q2⟩
theorem ps_dput (hu : X.A.units + 1 < cLine) (ho : PE X o td) (hi : PE X i ty) (hv : PE X value tv) (hs : swapsWith value (some (.Subscript o i pos')) pos.line X.env = pure false) :
    PS X (.Assign [.Subscript o i pos'] value pos) (sDPut td ty tv) := by
  intro pins s σ H D I h
  refine wpAny_Assign_Subscript (thn (hv pins s σ H _ I h) fun r s1 zq => zq.elim fun v H1 I1 rv q1 => thn (ho pins s1 σ H1 _ I1 q1) fun u s2 zq => zq.elim fun x H2 I2 rx q2 => thn (hi pins s2 σ H2 _ I2 q2) fun iv s3 ⟨y, H3, I3, ry, a, H4, ex, g, q3⟩ => ?_) hs
  subst ex
  obtain rfl : u = Value.ref a := rx
  exact d_setItem hu I3 g ry rv fun s4 I4 => ⟨σ, H4, I4, q3⟩
end


theorem dk_empty {P : Program} {w : World} {H : Hp} (h : Heap) (hb : sysModules < h.objs.size) : ObjOk P w H (h.push { cls := .type "dict", data := .dict #[] }) h.objs.size (.dK []) :=
  ⟨Nat.zero_le _, beq_eq_false_iff_ne.mpr (Ne.symm (Nat.ne_of_lt hb)), [], .nil, Heap.DictOf.new h⟩
def tDNewK : TE := fun _ H Q => ∀ p, H p = none → Q (.ref p) (upd H p (.dK []))
section
variable {X : Cx} {pos : Pos}
theorem pe_dnewK : PE X (.Dict [] [] pos) tDNewK := fun pins s σ H Q I h =>
  wpAny_Dict_empty ⟨.ref s.heap.objs.size, _, I.laid (a := s.heap.objs.size) (o := .dK []) (t' := s.toks) (fun _ _ q => Heap.get?_push_of_some _ q) (Nat.le_refl _) (dk_empty s.heap I.big), rfl, h _ (I.hok.fresh (Nat.le_refl _))⟩
end

def tPairs : List (TE × TE) → St → Hp → (List (V × V) → Hp → Prop) → Prop
  | [], _, H, Q => Q [] H
  | (tk, tv) :: r, σ, H, Q => tk σ H fun x H1 => tv σ H1 fun y H2 => tPairs r σ H2 fun ps H3 => Q ((x, y) :: ps) H3
abbrev VV : List (V × V) → List (Value × Value) → Prop := Paired fun p q => RelV p.1 q.1 ∧ RelV p.2 q.2
def PPs (X : Cx) (pos : Pos) (keys : List (Option Expr)) (values : List Expr) (trs : List (TE × TE)) : Prop :=
  ∀ (pins : List (Addr × Obj)) (s : Shared) (σ : St) (H : Hp) (Q : List (V × V) → Hp → Prop), Inv X pins σ H s → tPairs trs σ H Q →
    wpAny (model X.prog X.w) X.A (evalPairs (pairTrees keys values X.env pos)) (fun vs s' => ∃ ps H', Inv X pins σ H' s' ∧ VV ps vs ∧ Q ps H') X.xe s
theorem pps_nil {X : Cx} {pos : Pos} : PPs X pos [] [] [] := fun pins s σ H Q I h => pairTrees_nil_walk ⟨[], H, I, .nil, h⟩
theorem pps_cons {X : Cx} {pos : Pos} {k v : Expr} {ks : List (Option Expr)} {vs : List Expr} {tk tv : TE} {trs : List (TE × TE)} (hk : PE X k tk) (hv : PE X v tv) (hr : PPs X pos ks vs trs) :
    PPs X pos (some k :: ks) (v :: vs) ((tk, tv) :: trs) := fun pins s σ H Q I h =>
  pairTrees_cons_walk (thn (hk pins s σ H _ I h) fun u s1 zq => zq.elim fun x H1 I1 rx q1 => thn (hv pins s1 σ H1 _ I1 q1) fun w2 s2 ⟨y, H2, I2, ry, q2⟩ =>
    thn (hr pins s2 σ H2 _ I2 q2) fun ws s3 ⟨ps, H3, I3, rel, q3⟩ => ⟨(x, y) :: ps, H3, I3, .cons ⟨rx, ry⟩ rel, q3⟩)

def mergeK (kvs more : List (Key × V)) : List (Key × V) := more.foldl (fun acc kv => putK acc kv.1 kv.2) kvs
theorem KV.merge : ∀ {more : List (Key × V)} {rs : List (Key × Value)} {kvs : List (Key × V)} {vs : List (Key × Value)}, KV more rs → KV kvs vs → KV (mergeK kvs more) (merged vs rs) := by
  intro more rs kvs vs r
  unfold KV at r
  induction r generalizing kvs vs with
  | nil => intro q; exact q
  | @cons p q ps qs h t ih =>
    intro r0
    have e : KV (putK kvs p.1 p.2) (stored vs q.1 q.2) := by
      have := r0.put p.1 h.2
      rw [← h.1]; exact this
    exact ih e
theorem length_mergeK : ∀ (more kvs : List (Key × V)), (mergeK kvs more).length ≤ kvs.length + more.length
  | [], kvs => by show kvs.length ≤ kvs.length + 0; omega
  | p :: r, kvs => by
    have h1 := length_mergeK r (putK kvs p.1 p.2)
    have h2 := length_putK kvs p.1 p.2
    show (mergeK (putK kvs p.1 p.2) r).length ≤ _
    rw [List.length_cons]; omega
theorem carries_of {P : Program} {w : World} : ∀ {kvs : List (Key × V)} {ws : List (Value × Value)}, VV (kvs.map fun kv => (kV kv.1, kv.2)) ws → ∃ rs, Carries (mixKind P w) ws rs ∧ KV kvs rs
  | [], _, r => by rw [List.map_nil] at r; cases r; exact ⟨[], True.intro, .nil⟩
  | p :: kvs, _, r => by
    rw [List.map_cons] at r
    cases r with
    | @cons a b as bs h t =>
      obtain ⟨rs, c, q⟩ := carries_of (P := P) (w := w) t
      obtain ⟨b1, b2⟩ := b
      exact ⟨(p.1, b2) :: rs, ⟨kV_is h.1, rfl, c⟩, .cons ⟨rfl, h.2⟩ q⟩
def tDisp (trs : List (TE × TE)) : TE := fun σ H Q => ∀ p, H p = none → tPairs trs σ (upd H p (.dK [])) fun ps H2 => H2 p = some (.dK []) ∧ ∃ kvs : List (Key × V), ps = kvs.map (fun kv => (kV kv.1, kv.2)) ∧ kvs.length ≤ 15 ∧ Q (.ref p) (upd H2 p (.dK (mergeK [] kvs)))
theorem pe_disp {X : Cx} {pos : Pos} {keys : List (Option Expr)} {values : List Expr} {trs : List (TE × TE)} (h : PPs X pos keys values trs) (hall : keys.all (·.isSome) = true) (hl : keys.length = values.length) (h0 : keys ≠ [])
    (h15 : keys.length ≤ 15) : PE X (.Dict keys values pos) (tDisp trs) := by
  intro pins s σ H Q I q
  have hn := I.hok.fresh (Nat.le_refl s.heap.objs.size)
  have I1 := I.laid (a := s.heap.objs.size) (o := .dK []) (h' := s.heap.push { cls := .type "dict", data := .dict #[] }) (t' := s.toks) (fun _ _ q => Heap.get?_push_of_some _ q) (Nat.le_refl _) (dk_empty s.heap I.big)
  refine wpAny_Dict_walk (knd := mixKind X.prog X.w) hall hl h0 h15 (thn (h pins _ σ _ _ I1 (q _ hn)) fun ws s2 ⟨ps, H2, I2, rel, e, kvs, ep, lk, q2⟩ => ?_)
  subst ep
  obtain ⟨rs, c, rk⟩ := carries_of (P := X.prog) (w := X.w) rel
  obtain ⟨z, hd, vs0, r0, dd⟩ := dk_of I2.hok e
  cases r0
  refine ⟨rs, c, dd, fun h' dd' hs => ⟨.ref s.heap.objs.size, _, ?_, rfl, q2⟩⟩
  have hz : (mergeK [] kvs).length ≤ sizeLine := by
    have h1 := length_mergeK kvs []
    rw [List.length_nil] at h1
    rw [sizeLine_eq]; omega
  have he : ∃ q, h'.get? s.heap.objs.size = some q := let ⟨q, _, _, hq, _⟩ := dd'; ⟨q, hq⟩
  exact d_write I2 (by rw [e]; exact True.intro) hs he (dk_new hz hd (rk.merge .nil) dd')


structure M1 (X : Cx) (o : Expr) (m : Str) (apos : Pos) (e : Expr) (cpos : Pos) : Prop where
  base : attributeBase o m X.env (eval o X.env) = eval o X.env
  few : ((backTo cpos (starEach [e] X.env)).all (fun x => !x.1) && (backToKw cpos (keywordEach [] X.env)).all (fun x => x.1.isSome)
    && decide (([e] : List Expr).length + ([] : List Keyword).length + (if ([] : List Keyword).isEmpty then 0 else 1) < 30)) = true
  line : (apos.endLine == cpos.line) = true
  trees : backTo cpos (starEach [e] X.env) = [(false, eval e X.env)]
structure M2 (X : Cx) (o : Expr) (m : Str) (apos : Pos) (e f : Expr) (cpos : Pos) : Prop where
  base : attributeBase o m X.env (eval o X.env) = eval o X.env
  few : ((backTo cpos (starEach [e, f] X.env)).all (fun x => !x.1) && (backToKw cpos (keywordEach [] X.env)).all (fun x => x.1.isSome)
    && decide (([e, f] : List Expr).length + ([] : List Keyword).length + (if ([] : List Keyword).isEmpty then 0 else 1) < 30)) = true
  line : (apos.endLine == cpos.line) = true
  trees : backTo cpos (starEach [e, f] X.env) = [(false, eval e X.env), (false, eval f X.env)]

section
variable {X : Cx} {pins : List (Addr × Obj)} {σ : St} {H : Hp} {s : Shared} {a : Addr} {y d : V} {u r : Value} {o : Option V} {A : Around} {E : Value → Shared → Prop}
end

section
variable {X : Cx} {o e f : Expr} {apos cpos : Pos} {td ty tx : TE}
end

section
variable {X : Cx} {pins : List (Addr × Obj)} {σ : St} {H : Hp} {s : Shared} {a : Addr} {kvs : List (Key × V)} {A : Around} {E : Value → Shared → Prop}
theorem d_copyOf {Q : Value → Shared → Prop} (I : Inv X pins σ H s) (e : Rd H a (.dK kvs)) (h : ∀ p s', H p = none → Inv X pins σ (upd H p (.dK kvs)) s' → Q (.ref p) s') : wpAny (model X.prog X.w) A (call (.type "dict") [.ref a]) Q E s := by
  obtain ⟨z, hd, vs, rel, dd⟩ := dk_rd I.hok e
  refine kt_call_dict hd dd (by rw [← rel.length]; exact z) fun h' dd' hs => ?_
  refine h _ _ (I.hok.fresh (Nat.le_refl _)) (I.laid (a := s.heap.objs.size) (o := .dK kvs) (t' := s.toks) (fun b q hq => ?_) (Nat.le_refl _) (dk_new z (beq_eq_false_iff_ne.mpr (Ne.symm (Nat.ne_of_lt I.big))) rel dd'))
  exact (hs.2 b (Nat.ne_of_lt (Heap.lt_size hq))).trans (Heap.get?_push_of_some _ hq)
end


section
variable {X : Cx} {pins : List (Addr × Obj)} {σ : St} {H : Hp} {s : Shared} {a : Addr} {y : V} {u : Value} {A : Around} {E : Value → Shared → Prop}
end
end L2

namespace Att
open PySem PySem.W PySem.Calls PyProof.Rows

theorem ints_of_wellAll {P : Params} {h : Heap} : ∀ (ns : List Int) (vs : List Value), WellAll P h vs (ns.map WData.int) → IntsAre vs ns := by
  intro ns
  induction ns with
  | nil =>
    intro vs w
    rw [List.map_nil] at w
    cases w
    exact .nil
  | cons n ns ih =>
    intro vs w
    rw [List.map_cons] at w
    cases w with
    | cons a b =>
      cases a
      exact .cons _ _ (ih _ b)

theorem script_of {l : OpenLaw} {n : Nat} (hn : l.most = some n) {P : Params} {h : Heap} {args : List WData} {vals : List Value}
    (hpre : l.row.toRowW.claim.pre args = true) (hwl : WellAll P h vals args) :
    ∃ a vs ns, vals = [Value.ref a] ∧ args = [WData.list (ns.map WData.int)] ∧ h.get? a = some { cls := .type "list", data := .seq vs.toArray } ∧ IntsAre vs ns ∧ ns.length ≤ n := by
  have hsh : WShape.hasAll [] args [.list .int] = true := (pre_splitW hpre).1
  have hc : l.pre.holds [] { args := args } = true := (pre_splitW hpre).2
  obtain ⟨d, r, rfl, h1, h2⟩ := hasAllW_cons hsh
  obtain rfl := hasAllW_nil h2
  obtain ⟨xs, rfl, h3⟩ := hasW_list h1
  obtain ⟨ns, rfl⟩ := items_int h3
  have hlen : ns.length ≤ n := by
    unfold OpenLaw.pre at hc
    have h4 : (WTm.not (.lt (.lit (.int (n : Int))) (.len (.arg 0)))).holds [] { args := [.list (ns.map .int)] } = true := by
      have h4 := (holds_andW hc).1
      rw [hn] at h4
      exact h4
    have h5 := condW_of h4 (w_not (w_lt w_lit (w_len_list (w_arg rfl))))
    rw [List.length_map] at h5
    refine Nat.le_of_not_lt fun q => ?_
    have q' : (n : Int) < ((ns.length : Nat) : Int) := by omega
    first
      | (rw [decide_eq_true q'] at h5; exact absurd h5 (by decide))
      | (simp at h5; omega)
  cases hwl with
  | cons w1 w2 =>
    cases w2
    cases w1 with
    | list ho hall => exact ⟨_, _, ns, rfl, rfl, ho, ints_of_wellAll ns _ hall, hlen⟩

theorem post_true (l : OpenLaw) (args : List WData) : l.row.toRowW.claim.post args (.bool true) args = true :=
  postW_of (r := l.row.toRowW) (X := (true == true))
    (show WShape.has [] (.bool true) .bool = true by first | rfl | decide | simp [WShape.has, WShape.arms, WShape.armsAll])
    (show (WTm.eq .res (.lit (.bool true))).value [] { args := args, res := some (.bool true), after := args } = some (.bool (true == true)) from w_eq_bool (w_res rfl) w_lit) rfl

theorem attach_call {l : OpenLaw} {n : Nat} {q : Program} {loose : List Str} {XP : (Str → Option Value) → Heap → Prop} {YP : World → Heap → Prop} {d : DefRec}
    (hn : l.most = some n) (hdf : d.params.defaults = [])
    (call : ∀ (w : World) (s₀ s₁ : Shared) (mg mb : Str → Option Value) (fa : Addr) (o : Obj) (pm cd doc : Value) (a : Addr) (vs : List Value) (ns : List Int),
      Ground q loose [] XP w s₀ mg mb s₁.heap → YP w s₁.heap →
      s₁.heap.get? fa = some o → o.data = .func (docDef d.name d.params d.body d.scope pm cd doc) → s₁.heap.CodeRec cd d.name → mg d.name = some (.ref fa) →
      s₁.heap.get? a = some { cls := .type "list", data := .seq vs.toArray } → IntsAre vs ns → ns.length ≤ n → s₁.gens = #[] →
      codeAny (model l.prog w) callerA (.call (.ref fa) ⟨[.ref a], []⟩) (fun r s' => r = .ok (.ret (.bool true)) ∧ OldK s₁.heap s'.heap ∧ s'.os = s₁.os ∧ AllBare s'.gens) s₁) :
    WalkO q loose XP YP l.row.toRowW d [] (fun f vs => PySem.call f vs) := by
  intro w s₀ s₁ mg mb G Y fa o pm cd doc dV kV ho hd hcd hD hmg hg args vals as hpre hlay hrd hwl hlo
  obtain rfl : dV = .none := Dflts.none hD hdf
  obtain rfl : kV = .none := Dflts.noKw hD
  obtain ⟨a, vs, ns, rfl, rfl, hobj, hints, hlen⟩ := script_of hn hpre hwl
  refine enter_call (codeAny_mono (call w s₀ s₁ mg mb fa o pm cd doc a vs ns G Y ho (fd_plain hd) hcd hmg hobj hints hlen hg) fun r s' hq => ?_)
  obtain ⟨rfl, h2, h3, h4⟩ := hq
  exact ⟨.inl ⟨.bool true, .bool true, [], rfl, fun _ => rfl, .bool true, post_true l _, fun _ => ⟨List.Pairwise.nil, fun _ hm => (nomatch hm)⟩⟩, h2, h3, h4⟩

section
variable {prog : Program} {w : World} {A : Around} {E : Value → Shared → Prop} {s : Shared} {K : Frag}

end
end Att

namespace L2
open PySem PySem.Spec PyProof.Rows

theorem vals_ints {vs : List Value} {ns : List Int} (h : IntsAre vs ns) : Vals (ns.map V.int) vs := by
  induction h with
  | nil => exact .nil
  | cons n t _ ih => exact .cons ⟨t, rfl⟩ ih

def Only (H : Hp) : Prop := ∀ b, H b = none ∨ ∃ o xs, H b = some (.frz o (.lst xs))

theorem law_call {P : Program} {w : World} {K : PySem.W.Frag} {mg mb : Str → Option Value} {CX : CXT} {k : Nat} {fa a : Addr} {fd : FuncData} {x : Str} {sp : Sp} {s₁ : Shared} {vs : List Value} {ns : List Int}
    (KX : K.In s₁.heap) (hns : s₁.heap.Ns mainGlobals mg) (hb : s₁.heap.Ns builtinsNs mb) (hbb : ∀ x : Str, x ≠ "__name__" → mb x = bootBuiltins x) (hlim : s₁.heap.NoLimit) (hg : s₁.gens = #[])
    (ha : s₁.heap.get? a = some { cls := .type "list", data := .seq vs.toArray }) (hi : IntsAre vs ns) (hl : ns.length ≤ sizeLine) (hr : Room k callerA)
    (F : ∀ base : Heap, K.In base → base.Ns mainGlobals mg → FnOk P w K mg base CX k fa fd [x] sp) (hbind : ∀ (s : Shared) (u : Value), BindsTo s fd ⟨[u], []⟩ [(x, u)])
    (hsp : ∀ H : Hp, Only H → SqL K H a (ns.map V.int) → sp [.ref a] H (fun v _ => v = .bl true) fun _ _ _ => False)
    (hCX : ∀ H e s', CX [] H s₁ (fun _ _ _ => False) e s' → False) :
    codeAny (model P w) callerA (.call (.ref fa) ⟨[.ref a], []⟩) (fun r s' => r = .ok (.ret (.bool true)) ∧ OldK s₁.heap s'.heap ∧ s'.os = s₁.os ∧ AllBare s'.gens) s₁ := by
  have rv := vals_ints hi
  have lenV := hi.length
  have core : ∀ H : Hp, Only H → SqL K H a (ns.map V.int) → HOk P w H s₁.heap → (∀ b, H b ≠ none → b = a) → (H a ≠ none → K.lookup a = none) →
      codeAny (model P w) callerA (.call (.ref fa) ⟨[.ref a], []⟩) (fun r s' => r = .ok (.ret (.bool true)) ∧ OldK s₁.heap s'.heap ∧ s'.os = s₁.os ∧ AllBare s'.gens) s₁ := by
    intro H hO hS hok hA hK
    have base_of : ∀ {b : Addr} {o : Obj}, s₁.heap.get? b = some o → H b = none → (hidT s₁.heap H).get? b = some o := fun e n => hidT_get e n
    have noA : ∀ {b : Addr} {o : Obj} {es : Array DictEntry} {ep : Nat}, s₁.heap.get? b = some o → o.data = .dict es ep → H b = none := fun {b o es ep} e d => by
      cases q : H b with
      | none => rfl
      | some u =>
        have e' : b = a := hA b (by rw [q]; simp)
        subst e'
        rw [ha] at e; cases e
        have d' : Data.seq vs.toArray _ = Data.dict es ep := d
        cases d'
    have nsK : ∀ {b : Addr} {m : Str → Option Value}, s₁.heap.Ns b m → (hidT s₁.heap H).Ns b m := fun {b m} ⟨o, es, ep, e, d, r⟩ => ⟨o, es, ep, base_of e (noA e d), d, r⟩
    have hKb : K.In (hidT s₁.heap H) := fun b o e => base_of (KX b o e) (by
      cases q : H b with
      | none => rfl
      | some u =>
        have e' : b = a := hA b (by rw [q]; simp)
        subst e'
        rw [hK (by rw [q]; simp)] at e; cases e)
    have hM : Mod K mg (hidT s₁.heap H) := ⟨hKb, nsK hns, ⟨mb, nsK hb, hbb⟩, let ⟨mc, h1, h2⟩ := hlim; ⟨mc, nsK h1, h2⟩⟩
    have e0 : Env0 P w K mg (hidT s₁.heap H) callerA [] s₁ H := ⟨rfl, hM, fun b o e => of_hidT e, Nat.le_of_eq (hidT_size _ _), trivial, fun b hb => absurd (show b ∈ ([] : List Addr) from hb) (by simp), hok, .of_eq hg⟩
    refine codeAny_mono ((F _ hKb (nsK hns)).run callerA [] s₁ H ⟨[.ref a], []⟩ [.ref a] [.ref a] _ _ hr e0 (hbind s₁ (.ref a)) (.cons rfl .nil) (hsp H hO hS)) fun r s' h => ?_
    cases r with
    | error e => exact (hCX H e s' h).elim
    | ok fl =>
      cases fl with
      | next => exact False.elim h
      | brk => exact False.elim h
      | cont => exact False.elim h
      | ret u =>
        obtain ⟨v, H', os, bare, un, hok', r', q⟩ := h
        have q' : v = .bl true := q
        subst q'
        obtain rfl : u = Value.bool true := r'
        refine ⟨rfl, OldK.of_keep fun b o e => ?_, os, bare⟩
        cases q : H b with
        | none => exact un.keep b o e q (by intro z; exact absurd (show b ∈ ([] : List Addr) from z) (by simp)) (by simp)
        | some u =>
          rcases hO b with z | ⟨ob, xs, z⟩
          · rw [q] at z; cases z
          · have z2 := un.frzs b ob _ z
            obtain ⟨e1, _⟩ := hok b _ z
            obtain ⟨e2, _⟩ := hok' b _ z2
            rw [e] at e1; cases e1
            exact e2
  cases hk : K.lookup a with
  | some o =>
    have e := KX a o hk
    rw [ha] at e
    cases e
    refine core (fun _ => none) (fun _ => .inl rfl) (.inr ⟨_, vs.toArray, _, hk, rfl, rfl, rfl, by rw [List.size_toArray, lenV]; exact hl, by simpa using rv⟩) (fun b u z => by have z' : (none : Option HO) = some u := z; cases z') (fun b z => absurd rfl z) fun z => absurd rfl z
  | none =>
    refine core (fun b => if b = a then some (.frz { cls := .type "list", data := .seq vs.toArray } (.lst (ns.map V.int))) else none) (fun b => ?_) (.inl (.inr ⟨{ cls := .type "list", data := .seq vs.toArray }, if_pos rfl⟩)) (fun b u z => ?_) (fun b z => ?_) fun _ => hk
    · by_cases hb : b = a
      · exact .inr ⟨_, _, if_pos hb⟩
      · exact .inl (if_neg hb)
    · by_cases hb : b = a
      · have z' := (if_pos hb).symm.trans z
        cases z'
        subst hb
        exact ⟨ha, by rw [List.length_map]; exact hl, vs, _, rv, ha⟩
      · have z' := (if_neg hb).symm.trans z
        cases z'
    · by_cases hb : b = a
      · exact hb
      · exact absurd (if_neg hb) z
end L2

namespace L2
open PySem PySem.Spec PyProof.Rows

theorem walk_of {l : PySem.W.OpenLaw} {n k : Nat} {q : Program} {loose : List Str} {XP : (Str → Option Value) → Heap → Prop} {YP : World → Heap → Prop} {d : DefRec} {K : Params → PySem.W.Frag} {CX : World → CXT} {sp : World → Sp} {x : Str}
    (hn : l.most = some n) (hn2 : n ≤ sizeLine) (hdf : d.params.defaults = []) (hr : Room k callerA)
    (hY : ∀ (w : World) (h : Heap), YP w h → (K w.params).In h)
    (F : ∀ (w : World) (mg : Str → Option Value) (fa : Addr) (h : Heap), (K w.params).In h → h.Ns mainGlobals mg → mg d.name = some (.ref fa) →
      ∃ fd : FuncData, (∀ (s : Shared) (u : Value), BindsTo s fd ⟨[u], []⟩ [(x, u)]) ∧
        ∀ base : Heap, (K w.params).In base → base.Ns mainGlobals mg → FnOk l.prog w (K w.params) mg base (CX w) k fa fd [x] (sp w))
    (hsp : ∀ (w : World) (H : Hp) (a : Addr) (ns : List Int), ns.length ≤ n → Only H → SqL (K w.params) H a (ns.map V.int) → sp w [.ref a] H (fun v _ => v = .bl true) fun _ _ _ => False)
    (hCX : ∀ (w : World) (H : Hp) (s : Shared) (e : Value) (s' : Shared), CX w [] H s (fun _ _ _ => False) e s' → False) :
    PySem.W.WalkO q loose XP YP l.row.toRowW d [] (fun f vs => PySem.call f vs) := by
  refine Att.attach_call hn hdf fun w s₀ s₁ mg mb fa o pm cd doc a vs ns G Y ho hd hcd hmg hobj hints hlen hg => ?_
  have KX := hY w _ Y
  obtain ⟨fd, hb, hF⟩ := F w mg fa _ KX G.T.g hmg
  exact law_call KX G.T.g G.T.b G.T.builtins G.T.nolimit hg hobj hints (Nat.le_trans hlen hn2) hr hF hb (fun H hO hS => hsp w H a ns hlen hO hS) fun H e s' => hCX w H s₁ e s'
end L2



namespace L2
open PySem PySem.Spec PyProof.Rows

def defArgs (s : Stmt) : Arguments := match s with
  | .FunctionDef _ a _ _ _ _ _ _ _ _ => a
  | _ => { posonlyargs := [], args := [], vararg := none, kwonlyargs := [], kw_defaults := [], kwarg := none, defaults := [] }
def defBody (s : Stmt) : List Stmt := match s with
  | .FunctionDef _ _ b _ _ _ _ _ _ _ => b
  | _ => []
def defScope (s : Stmt) : Scope := match s with
  | .FunctionDef _ _ _ _ _ _ sc _ _ _ => sc
  | _ => { kind := .function, names := [], isGenerator := false, isCoroutine := false }

abbrev CX0 : CXT := fun _ _ _ _ _ _ => False
abbrev E0 : XK := fun _ _ _ => False
theorem pass0 {X : Cx} : Passes CX0 X E0 := fun _ _ _ _ _ _ _ h => h.elim

structure Fun (K : PySem.W.Frag) (x qual : Str) (st : Stmt) (f : Addr) (fd : FuncData) : Prop where
  ex : ∃ (oc : Value) (od : Option Addr) (kV doc pm : Value) (an : Option Addr) (cdv ct : Value) (osl : Array (Option Value)),
    fd = PySem.W.fnOf x qual (defArgs st) (defBody st) (defScope st) .none kV doc pm an cdv ct ∧ K.lookup f = some ⟨oc, od, .func fd, osl⟩ ∧ PySem.W.codeIn K cdv qual = true
  kp : PySem.W.keepIn K (.ref f) = true
section
variable {P : Program} {w : World} {K : PySem.W.Frag} {mg : Str → Option Value} {base : Heap}
theorem Fun.ok {x qual : Str} {st : Stmt} {f : Addr} {fd : FuncData} {N ps : List Str} {k : Nat} {sp : Sp} (F : Fun K x qual st f fd) (S : FnScope N ps (defScope st)) (len : ∀ vs H Q E, sp vs H Q E → vs.length = ps.length)
    (hbody : ∀ (cdv : Value) (A : Around) (outer : List Env) (s : Shared) (H : Hp) (vs : List V) (Q : VK) (E : XK), Room k (A.deeper (envOfC qual (defScope st) s.heap.objs.size f cdv)) → sp vs H Q E →
      ∃ t, PSs (cxOf CX0 P w K mg base N qual (defScope st) f cdv A outer s H E).nox (defBody st) t ∧ t { nx := fun _ H' => Q .non H', rt := Q } (start N vs) H) : FnOk P w K mg base CX0 (k + 1) f fd ps sp := by
  obtain ⟨oc, od, kV, doc, pm, an, cdv, ct, osl, rfl, lk, hcd⟩ := F.ex
  refine fn_of lk hcd S len fun A outer s H vs Q E hr hsp => ?_
  obtain ⟨t, h, q⟩ := hbody cdv A outer s H vs Q E hr hsp
  exact ⟨t, h.nox, q⟩
theorem Fun.binds {x qual : Str} {st : Stmt} {f : Addr} {fd : FuncData} {ps : List Str} (F : Fun K x qual st f fd)
    (h : ∀ (kV doc pm : Value) (an : Option Addr) (cdv ct : Value) (us : List Value), us.length = ps.length → bindArgs (PySem.W.fnOf x qual (defArgs st) (defBody st) (defScope st) .none kV doc pm an cdv ct) ⟨us, []⟩ = pure (ps.zip us)) : Binds K fd ps [] := by
  obtain ⟨oc, od, kV, doc, pm, an, cdv, ct, osl, rfl, lk, hcd⟩ := F.ex
  exact .all (h kV doc pm an cdv ct)
theorem fun_mk {x qual : Str} {st : Stmt} {f : Addr} {oc : Value} {od an : Option Addr} {osl : Array (Option Value)} {kV doc pm cdv ct : Value} (l : K.lookup f = some ⟨oc, od, .func (PySem.W.fnOf x qual (defArgs st) (defBody st) (defScope st) .none kV doc pm an cdv ct), osl⟩)
    (c : PySem.W.codeIn K cdv qual = true) (k : PySem.W.keepIn K (.ref f) = true) : Fun K x qual st f (PySem.W.fnOf x qual (defArgs st) (defBody st) (defScope st) .none kV doc pm an cdv ct) := ⟨⟨oc, od, kV, doc, pm, an, cdv, ct, osl, rfl, l, c⟩, k⟩
end
theorem hu_of {A : Around} {k : Nat} (hr : Room k A) : A.units + 1 < cLine := Nat.lt_of_le_of_lt (Nat.add_le_add_left (by decide : 1 ≤ 64) _) hr.units
theorem small1000 {n : Nat} (h : n ≤ 1000) : n < sizeLine := Nat.lt_of_le_of_lt h (by decide)

section
variable {X : Cx}
theorem pv (i : Nat) {x : Str} {pos : Pos} (hN : X.N[i]? = some x := by rfl) (hv : Vis X.env.scope x := by first | exact Or.inl rfl | exact Or.inr (Or.inl rfl) | exact Or.inr (Or.inr rfl)) (hd : (x == ("__debug__" : Str)) = false := by decide)
    (hcd : (x == ("__classdict__" : Str)) = false := by decide) : PE X (.Name x pos) (tVar i) := pe_var hN hv hd hcd
inductive r_call_lenDI (xs : List V) (H : Hp) (Q : VK) : Prop
  | mk (a : _) (kvs : _) (h0_ : xs = [V.ref a]) (h1_ : H a = some (.dK kvs)) (h2_ : Q (.int kvs.length) H) : r_call_lenDI xs H Q
end

theorem iteF {A B : Prop} (h : B) : if false = true then A else B := by
  rw [if_neg Bool.false_ne_true]
  exact h
theorem iteT {A B : Prop} (h : A) : if true = true then A else B := by
  rw [if_pos rfl]
  exact h
theorem ite2 {c A B : Prop} [Decidable c] (h1 : c → A) (h2 : ¬ c → B) : if c then A else B := by
  by_cases h : c
  · rw [if_pos h]
    exact h1 h
  · rw [if_neg h]
    exact h2 h
theorem iteNS {c A B : Prop} [Decidable c] (hc : c) (h : B) : if (!decide c) = true then A else B := by
  rw [decide_eq_true hc]
  exact iteF h

def Same (H H' : Hp) : Prop := ∀ b o, H b = some o → H' b = some o
theorem Same.refl (H : Hp) : Same H H := fun _ _ h => h
theorem Same.trans {H H1 H2 : Hp} (a : Same H H1) (b : Same H1 H2) : Same H H2 := fun c o h => b c o (a c o h)
theorem Same.free {H H' : Hp} (e : Same H H') {l : Addr} (h : H' l = Option.none) : H l = Option.none := by
  cases q : H l with
  | none => rfl
  | some o =>
    rw [e l o q] at h
    cases h
theorem Same.seq {K : PySem.W.Frag} {H H' : Hp} {a : Addr} {xs : List V} (e : Same H H') (h : SqL K H a xs) : SqL K H' a xs := by
  rcases h with (h | ⟨o, h⟩) | h
  · exact .inl (.inl (e _ _ h))
  · exact .inl (.inr ⟨o, e _ _ h⟩)
  · exact .inr h

section
variable {κ : Type} [DecidableEq κ]
theorem valV_not {kvs : List (κ × V)} {k : κ} (h : valV kvs k = none) : ¬ k ∈ kvs.map (·.1) := by
  intro m
  obtain ⟨p, hp, e⟩ := List.mem_map.mp m
  have q : (kvs.any fun kv => decide (kv.1 = k)) = true := List.any_eq_true.mpr ⟨p, hp, decide_eq_true e⟩
  rw [valV_any, h] at q
  exact absurd q (by simp)
theorem valV_in {kvs : List (κ × V)} {k : κ} {v : V} (h : valV kvs k = some v) : k ∈ kvs.map (·.1) := by
  have q : (kvs.any fun kv => decide (kv.1 = k)) = true := by
    rw [valV_any, h]
    all_goals rfl
  obtain ⟨p, hp, e⟩ := List.any_eq_true.mp q
  exact List.mem_map.mpr ⟨p, hp, of_decide_eq_true e⟩
theorem nd_snoc : ∀ {l : List κ} {k : κ}, l.Nodup → ¬ k ∈ l → (l ++ [k]).Nodup
  | [], k, _, _ => by simp
  | a :: r, k, h, hk => by
    obtain ⟨h1, h2⟩ := List.nodup_cons.mp h
    show (a :: (r ++ [k])).Nodup
    refine List.nodup_cons.mpr ⟨fun m => ?_, nd_snoc h2 fun m => hk (List.mem_cons.mpr (Or.inr m))⟩
    rcases List.mem_append.mp m with q | q
    · exact h1 q
    · exact hk (List.mem_cons.mpr (Or.inl (List.mem_singleton.mp q).symm))
end
end L2

set_option Elab.async false
set_option linter.all false
set_option maxRecDepth 100000
set_option maxHeartbeats 4000000
namespace L2
open PySem PySem.Spec PyProof.Rows
theorem comp_turns {prog : Program} {w : World} {A : Around} {R : Result → Shared → Prop} {elt tg iter : Expr} {ifs : List Expr} {scope : Scope} {pos : Pos} {it acc : Value} {env : Env} (Iv : Nat → Shared → Prop)
    (step : ∀ n s, Iv n s → wpAny (model prog w) A (pyNext it) (fun r s1 => match r with
      | none => R (.ok .next) s1
      | some v => wpAny (model prog w) A (letOwnedTupleGo tg it v) (fun _ s2 => wpAny (model prog w) A (assign tg env v) (fun _ s3 =>
          wpAny (model prog w) A (forIn ifs true fun c r => if r = true then do let ok ← isTrue c env (eval c env); pure (ForInStep.yield ok) else pure (ForInStep.yield r)) (fun ok s4 =>
            if ok = true then wpAny (model prog w) A (eval elt env) (fun y s5 => wpAny (model prog w) A (call (.builtin "list.append") [acc, y]) (fun _ s6 => ∃ m, m < n ∧ Iv m s6) (fun _ _ => False) s5) (fun _ _ => False) s4
            else ∃ m, m < n ∧ Iv m s4) (fun _ _ => False) s3) (fun _ _ => False) s2) (fun _ _ => False) s1) (fun _ _ => False) s)
    (n : Nat) {s : Shared} (h : Iv n s) : codeAny (model prog w) A (.compLoop (.ListComp elt [⟨tg, iter, ifs, 0⟩] scope pos) 0 it acc env) R s := by
  have up : ∀ {α : Type} {t : Sem α} {Q : α → Shared → Prop} {E : Value → Shared → Prop} {s : Shared}, wpAny (model prog w) A t Q (fun _ _ => False) s → wpAny (model prog w) A t Q E s :=
    fun h => wpAny_mono h (fun _ _ q => q) fun _ _ z => z.elim
  refine codeAny_loop rfl Iv (fun k s hI => ?_) n h
  show wpAny _ A ((compTurn (.ListComp elt [⟨tg, iter, ifs, 0⟩] scope pos) 0 it acc env).onRaise (fun x => do noteFrame x env; theTreesLotGoes x)) _ _ s
  refine wpAny_noted ?_
  rw [compTurn_list]
  refine wpAny_bind (wpAny_standAt (wpAny_bind (wpAny_mono (up (step k s hI)) (fun r s1 h1 => ?_) fun _ _ z => z)))
  cases r with
  | none => exact wpAny_pure h1
  | some v =>
    refine wpAny_bind (wpAny_mono (up h1) (fun _ s2 h2 => ?_) fun _ _ z => z)
    refine wpAny_bind (wpAny_mono (up h2) (fun _ s3 h3 => ?_) fun _ _ z => z)
    refine wpAny_bind (wpAny_mono (up h3) (fun ok s4 h4 => ?_) fun _ _ z => z)
    cases ok with
    | false => exact wpAny_pure ⟨rfl, h4⟩
    | true =>
      have h4 : wpAny (model prog w) A (eval elt env) (fun y s5 => wpAny (model prog w) A (call (.builtin "list.append") [acc, y]) (fun _ s6 => ∃ m, m < k ∧ Iv m s6) (fun _ _ => False) s5) (fun _ _ => False) s4 := h4
      exact wpAny_bind (wpAny_bind (wpAny_mono (up h4) (fun y s5 h5 => wpAny_bind (wpAny_mono (up h5) (fun _ s6 h6 => wpAny_pure (wpAny_pure ⟨rfl, h6⟩)) fun _ _ z => z)) fun _ _ z => z))

def closL (cells : List (Str × Addr)) : List (Str × NameKind) → List (Str × Addr) → List (Str × Addr)
  | [], acc => acc
  | (n, k) :: r, acc => if k == .free then closL cells r ((n, (cells.lookup n).getD 0) :: acc) else closL cells r acc
theorem closL_lookup {cells : List (Str × Addr)} {x : Str} {c : Addr} : ∀ (names : List (Str × NameKind)) (acc : List (Str × Addr)), (∀ p ∈ names, p.2 = .free → ∃ c, cells.lookup p.1 = some c) →
    (∀ y d, acc.lookup y = some d → cells.lookup y = some d) → (closL cells names acc).lookup x = some c → cells.lookup x = some c
  | [], acc, _, h2, h => h2 x c h
  | (n, k) :: r, acc, h1, h2, h => by
    unfold closL at h
    by_cases hk : (k == NameKind.free) = true
    · rw [if_pos hk] at h
      have ek : k = .free := by simpa using hk
      obtain ⟨d, hd⟩ := h1 (n, k) List.mem_cons_self ek
      refine closL_lookup r _ (fun p hp => h1 p (List.mem_cons_of_mem _ hp)) (fun y e hy => ?_) h
      rw [List.lookup_cons] at hy
      cases hyn : y == n with
      | true =>
        rw [hyn] at hy
        have : y = n := by simpa using hyn
        subst this
        have hd' : List.lookup y cells = some d := hd
        rw [hd'] at hy ⊢
        exact hy
      | false =>
        rw [hyn] at hy
        exact h2 y e hy
    · rw [if_neg hk] at h
      exact closL_lookup r acc (fun p hp => h1 p (List.mem_cons_of_mem _ hp)) h2 h
theorem closL_has {cells : List (Str × Addr)} {x : Str} : ∀ (names : List (Str × NameKind)) (acc : List (Str × Addr)), ((acc.lookup x).isSome = true ∨ (x, NameKind.free) ∈ names) → ((closL cells names acc).lookup x).isSome = true
  | [], acc, h => h.elim (fun z => z) fun z => nomatch z
  | (n, k) :: r, acc, h => by
    unfold closL
    by_cases hk : (k == NameKind.free) = true
    · rw [if_pos hk]
      refine closL_has r _ ?_
      rcases h with h | h
      · refine .inl ?_
        rw [List.lookup_cons]
        cases x == n <;> simp [h]
      · rcases List.mem_cons.mp h with e | e
        · refine .inl ?_
          have : x = n := congrArg Prod.fst e
          subst this
          rw [List.lookup_cons]
          simp
        · exact .inr e
    · rw [if_neg hk]
      refine closL_has r _ ?_
      rcases h with h | h
      · exact .inl h
      · rcases List.mem_cons.mp h with e | e
        · have : NameKind.free = k := congrArg Prod.snd e
          subst this
          exact absurd rfl hk
        · exact .inr e
theorem closureFor_closL {scope : Scope} {env : Env} (h : ∀ p ∈ scope.names, p.2 = .free → ∃ c, env.cells.lookup p.1 = some c) : closureFor scope env = pure (closL env.cells scope.names []) := by
  have go : ∀ (names : List (Str × NameKind)) (acc : List (Str × Addr)), (∀ p ∈ names, p.2 = .free → ∃ c, env.cells.lookup p.1 = some c) →
      (forIn names acc (fun (x : Str × NameKind) r => if (x.2 == NameKind.free) = true then do let a ← cellOf env x.1; pure (ForInStep.yield ((x.1, a) :: r)) else pure (ForInStep.yield r)) : Sem (List (Str × Addr))) = pure (closL env.cells names acc) := by
    intro names
    induction names with
    | nil => intro acc _; rfl
    | cons p r ih =>
      intro acc h1
      obtain ⟨n, k⟩ := p
      rw [List.forIn_cons]
      unfold closL
      by_cases hk : (k == NameKind.free) = true
      · have ek : k = .free := by simpa using hk
        obtain ⟨c, hc⟩ := h1 (n, k) List.mem_cons_self ek
        have hc : List.lookup n env.cells = some c := hc
        have e : cellOf env n = pure c := by unfold cellOf; rw [hc]
        simp only [hk, if_true, e, hc, Option.getD_some]
        exact ih _ fun p hp => h1 p (List.mem_cons_of_mem _ hp)
      · simp only [hk, if_false]
        exact ih _ fun p hp => h1 p (List.mem_cons_of_mem _ hp)
  unfold closureFor
  exact Eq.trans (congrArg (fun t : Sem (List (Str × Addr)) => t >>= fun cs => pure cs) (go scope.names [] h)) rfl
end L2

namespace L2
open PySem PySem.Spec PyProof.Rows
def relG (env : Env) (n : Str) (k : NameKind) : NameKind := if (k == .free && env.scope.kind == .function && env.kindOf n == some .cell) = true then .cell else k
theorem lookup_kinds {g : Str → NameKind → NameKind} (y : Str) : ∀ names : List (Str × NameKind), (names.map fun p => (p.1, g p.1 p.2)).lookup y = (names.lookup y).map (g y)
  | [] => rfl
  | (n, k) :: r => by
    rw [List.map_cons, List.lookup_cons, List.lookup_cons]
    cases e : y == n with
    | true =>
      have : y = n := by simpa using e
      subst this
      rfl
    | false => exact lookup_kinds y r
theorem relabel_lookup (scope : Scope) (env : Env) (y : Str) : (relabel scope env).names.lookup y = (scope.names.lookup y).map (relG env y) := by
  have e : (relabel scope env).names = scope.names.map fun p => (p.1, relG env p.1 p.2) := by
    unfold relabel
    refine List.map_congr_left fun p _ => ?_
    obtain ⟨n, k⟩ := p
    show (if (k == NameKind.free && env.scope.kind == .function && env.kindOf n == some .cell) = true then (n, NameKind.cell) else (n, k)) = (n, if (k == NameKind.free && env.scope.kind == .function && env.kindOf n == some .cell) = true then NameKind.cell else k)
    by_cases h : (k == NameKind.free && env.scope.kind == .function && env.kindOf n == some .cell) = true
    · rw [if_pos h, if_pos h]
    · rw [if_neg h, if_neg h]
  rw [e]
  exact lookup_kinds y _
def pickS (σ : St) (fs : List Nat) : St := fs.map fun i => (σ[i]?).join
theorem pickS_get {σ : St} {fs : List Nat} {j : Nat} {v : V} (h : (pickS σ fs)[j]? = some (some v)) : ∃ i, fs[j]? = some i ∧ σ[i]? = some (some v) := by
  unfold pickS at h
  rw [List.getElem?_map] at h
  cases e : fs[j]? with
  | none => rw [e] at h; cases h
  | some i =>
    rw [e] at h
    refine ⟨i, rfl, ?_⟩
    have h' : (σ[i]?).join = some v := Option.some.inj h
    cases e2 : σ[i]? with
    | none => rw [e2] at h'; cases h'
    | some o =>
      rw [e2] at h'
      have h' : o = some v := h'
      rw [h']
structure CompOk (X : Cx) (scope : Scope) (x : Str) (fv : List Str) (fs : List Nat) : Prop where
  kind : scope.kind = .function
  nocell : ∀ p ∈ scope.names, p.2 ≠ .cell
  names : ∀ p ∈ scope.names, p.2 = .local → scope.names.lookup p.1 = some .local
  tg : scope.names.lookup x = some .local
  free : ∀ p ∈ scope.names, p.2 = .free → X.env.scope.names.lookup p.1 = some .cell
  nd : (x :: fv).Nodup
  fvs : ∀ (j : Nat) y, fv[j]? = some y → ∃ i, fs[j]? = some i ∧ X.N[i]? = some y ∧ scope.names.lookup y = some .free
  len : fv.length = fs.length
def compChk (sc : Scope) (N : List Str) (scope : Scope) (x : Str) (fv : List Str) (fs : List Nat) : Bool :=
  scope.kind == .function && (scope.names.all fun p => p.2 != .cell) && (scope.names.all fun p => p.2 != .local || scope.names.lookup p.1 == some .local) && scope.names.lookup x == some .local &&
  (scope.names.all fun p => p.2 != .free || sc.names.lookup p.1 == some .cell) && decide (x :: fv).Nodup && fs.map (N[·]?) == fv.map some && (fv.all fun y => scope.names.lookup y == some .free)
theorem CompOk.of {X : Cx} {scope : Scope} {x : Str} {fv : List Str} {fs : List Nat} (h : compChk X.env.scope X.N scope x fv fs = true) : CompOk X scope x fv fs := by
  unfold compChk at h
  simp only [Bool.and_eq_true, List.all_eq_true, Bool.or_eq_true, bne_iff_ne, beq_iff_eq, decide_eq_true_eq] at h
  obtain ⟨⟨⟨⟨⟨⟨⟨h1, h2⟩, h3⟩, h4⟩, h5⟩, h6⟩, h7⟩, h8⟩ := h
  have hlen : fs.length = fv.length := by
    have := congrArg List.length h7
    simpa using this
  refine ⟨h1, h2, fun p hp hk => (h3 p hp).resolve_left fun z => z hk, h4, fun p hp hk => (h5 p hp).resolve_left fun z => z hk, h6, fun j y e => ?_, hlen.symm⟩
  have hj : j < fv.length := (List.getElem?_eq_some_iff.mp e).1
  have e7 := congrArg (fun l => l[j]?) h7
  simp only [List.getElem?_map, e] at e7
  have hj' : j < fs.length := by omega
  rw [List.getElem?_eq_getElem hj'] at e7
  refine ⟨fs[j], List.getElem?_eq_getElem hj', ?_, h8 y (List.mem_of_getElem? e)⟩
  simpa using e7
abbrev compX (X : Cx) (N' : List Str) (scope : Scope) (C : Addr) (s0 : Shared) (H0 : Hp) (fp : List Addr) : Cx where
  prog := X.prog
  w := X.w
  K := X.K
  mg := X.mg
  base := X.base
  A := X.A
  N := N'
  s₀ := s0
  H₀ := H0
  env := compEnvC scope (closL X.env.cells scope.names []) C X.env
  outer := X.stack
  stack := X.stack
  ex := fp
  fn := fun _ => false
  calm := X.calm
  pn := []
  xe := fun _ _ => False
section
variable {X : Cx} {pins : List (Addr × Obj)} {σ : St} {H H' : Hp} {s s' : Shared} {scope : Scope} {x : Str} {fv : List Str} {fs : List Nat} {fp : List Addr}
theorem CompOk.cells (ok : CompOk X scope x fv fs) (I : Inv X pins σ H s) : ∀ p ∈ scope.names, p.2 = .free → ∃ c, X.env.cells.lookup p.1 = some c := fun p hp hk => I.ok.has p.1 (.inl (ok.free p hp hk))
theorem CompOk.look (ok : CompOk X scope x fv fs) (I : Inv X pins σ H s) {y : Str} {c : Addr} (h : (closL X.env.cells scope.names []).lookup y = some c) : X.env.cells.lookup y = some c :=
  closL_lookup scope.names [] (ok.cells I) (fun _ _ z => by cases z) h
theorem comp_enter (ok : CompOk X scope x fv fs) (I : Inv X pins σ H s) (hf : ∀ b ∈ fp, FpOk X pins H b) (hfo : ∀ b ∈ fp, ∃ o, s.heap.get? b = some o) {h1 : Heap} {m : Str → Option Value} {tk : Nat} (hn : h1.Ns s.heap.objs.size m)
    (kept : ∀ b o, s.heap.get? b = some o → h1.get? b = some o) : Inv (compX X (x :: fv) scope s.heap.objs.size s H fp) [] (none :: pickS σ fs) H { s with heap := h1, toks := tk } := by
  have cl := fun {y c} => ok.look I (y := y) (c := c)
  have hkk : X.env.scope.kind = .function := I.ok.kind
  refine ⟨⟨I.ok.mod, ok.kind, I.ok.glob, I.ok.blt, Nat.le_refl _, fun y z c h1 h2 => I.ok.inj y z c (cl h1) (cl h2), fun y hy => ?_, fun y c hfn _ => (by cases hfn), I.ok.hd, I.ok.frames, .inl rfl, fun b hb => ⟨?_, fun y c e z => (hf b hb).2.2.2.2.1 y c (cl e) z⟩, I.bs,
    Nat.le_trans I.ok.bsz I.sz, fun b o e hb => ?_, fun b hb hbf => ?_, I.stack, I.stkFree⟩, rfl, I.bare, Un.kept kept, ⟨m, hn, fun i y v e1 e2 e3 => ?_⟩, fun y c e => ?_, I.fresh, fun y c e => I.freeC y c (cl e), fun p hp => absurd (show p ∈ ([] : List (Addr × Obj)) from hp) (by simp), I.hok.kept kept, ?_⟩
  · have hy : (relabel scope X.env).names.lookup y = some .cell ∨ (relabel scope X.env).names.lookup y = some .free := hy
    rw [relabel_lookup] at hy
    have hfr : scope.names.lookup y = some .free := by
      cases e : scope.names.lookup y with
      | none => rw [e] at hy; rcases hy with z | z <;> cases z
      | some k =>
        rw [e] at hy
        have hy : relG X.env y k = .cell ∨ relG X.env y k = .free := hy.elim (fun z => .inl (Option.some.inj z)) fun z => .inr (Option.some.inj z)
        by_cases hk : k = .free
        · rw [hk]
        · have e2 : relG X.env y k = k := by
            unfold relG
            have : (k == NameKind.free) = false := by simpa using hk
            rw [this]
            rfl
          rw [e2] at hy
          rcases hy with z | z
          · subst z
            exact absurd rfl (ok.nocell _ (PySem.mem_of_lookup e))
          · exact absurd z hk
    exact Option.isSome_iff_exists.mp (closL_has scope.names [] (.inr (PySem.mem_of_lookup hfr)))
  · obtain ⟨o, ho⟩ := hfo b hb
    exact Nat.ne_of_lt (Heap.lt_size ho)
  · rcases (hf b hb).2.2.2.1 with z | z
    · exact I.ok.noex b o e z
    · exact absurd (Nat.lt_of_lt_of_le (Heap.lt_size e) (Nat.le_trans I.ok.bsz z)) (Nat.lt_irrefl _)
  · rcases List.mem_cons.mp (I.stkSub b hbf) with z | z
    · exact (hf b hb).2.1 z
    · exact (hf b hb).2.2.1 z
  · cases i with
    | zero =>
      have e2 : (some none : Option (Option V)) = some (some v) := e2
      cases e2
    | succ j =>
      have e1 : fv[j]? = some y := e1
      have e2 : (pickS σ fs)[j]? = some (some v) := e2
      obtain ⟨i, g1, g2⟩ := pickS_get e2
      obtain ⟨i', g3, g4, g5⟩ := ok.fvs j y e1
      rw [g1] at g3
      cases g3
      have gk : X.env.scope.names.lookup y = some .cell := ok.free (y, .free) (PySem.mem_of_lookup g5) rfl
      obtain ⟨m0, _, hl0⟩ := I.loc
      obtain ⟨u, r, l⟩ := hl0 i y v g4 g2 (.inr (.inl gk))
      refine ⟨u, r, ?_⟩
      rcases l with ⟨k, _⟩ | ⟨_, c, e, o, ho, hd⟩
      · have k : X.env.scope.names.lookup y = some .local := k
        rw [gk] at k
        cases k
      · obtain ⟨c', hc'⟩ := Option.isSome_iff_exists.mp (closL_has (cells := X.env.cells) scope.names [] (.inr (PySem.mem_of_lookup g5)))
        have := cl hc'
        rw [e] at this
        cases this
        refine .inr ⟨.inl ?_, c, hc', o, kept _ _ ho, hd⟩
        show (relabel scope X.env).names.lookup y = some .cell
        rw [relabel_lookup, g5]
        show some (relG X.env y .free) = _
        have gk' : X.env.kindOf y = some .cell := gk
        unfold relG
        rw [hkk, gk']
        rfl
  · obtain ⟨v, o, ho, hd⟩ := I.cell y c (cl e)
    exact ⟨v, o, kept _ _ ho, hd⟩
  · show (none :: pickS σ fs).length = (x :: fv).length
    simp [pickS, ok.len]
theorem comp_leave {σ' : St} {C : Addr} {N' : List Str} (I : Inv X pins σ H s) (hf : ∀ b ∈ fp, FpOk X pins H b) (I' : Inv (compX X N' scope C s H fp) [] σ' H' s') : Inv X pins σ H' s' :=
  I.call' (ch := fp) I'.os I'.base I'.hok I'.bare fun b hb => ⟨(hf b hb).2.2.2.1, (hf b hb).2.1, (hf b hb).2.2.2.2.1, (hf b hb).2.2.2.2.2⟩
theorem Inv.off {C : Addr} {h' : Heap} (I : Inv X pins σ H s) (f : FpOk X pins H C) (hs : Heap.SameBut C s.heap h') : Inv X pins σ H { s with heap := h' } :=
  I.turned (t' := s.toks) (fun b o hb e => hs.extBut b o hb e) f.1 (fun z => f.2.1 z) f.2.2.2.1 f.2.2.2.2.1 f.2.2.2.2.2
end

def PTs (X : Cx) (ifs : List Expr) (t : TT) : Prop :=
  ∀ (pins : List (Addr × Obj)) (s : Shared) (σ : St) (H : Hp) (Q : Bool → Hp → Prop), Inv X pins σ H s → t σ H Q →
    wpAny (model X.prog X.w) X.A (forIn ifs true fun c r => if r = true then do let ok ← isTrue c X.env (eval c X.env); pure (ForInStep.yield ok) else pure (ForInStep.yield r)) (TP X pins σ Q) X.xe s
def tYes : TT := fun _ H Q => Q true H
theorem pts_nil {X : Cx} : PTs X [] tYes := fun _ _ _ H _ I h => wpAny_tests_nil ⟨H, I, h⟩
theorem pts_one {X : Cx} {c : Expr} {t : TT} (h : PT X c t) : PTs X [c] t := fun pins s σ H Q I q => wpAny_tests_one (h pins s σ H Q I q)

def CompRd (J : It) (tc : TT) (te : TE) (fs : List Nat) (σ : St) (H : Hp) (Q : VK) : Prop := ∀ D, H D = none → ∃ W : Nat → Nat → Hp → Prop, (∃ m, W 0 m (upd H D (.lst []))) ∧ ∀ i m H2, W i m H2 →
  (J.stop i H2 ∧ Q (.ref D) H2) ∨ (J.go i H2 ∧ ∀ v H3, J.yld i H2 v H3 → tc (some v :: pickS σ fs) H3 fun ok H4 =>
    if ok = true then te (some v :: pickS σ fs) H4 fun y H5 => ∃ ys, H5 D = some (.lst ys) ∧ ys.length < sizeLine ∧ ∃ m', m' < m ∧ W (i + 1) m' (upd H5 D (.lst (ys ++ [y]))) else ∃ m', m' < m ∧ W (i + 1) m' H4)
def tComp (wi : TI) (tc : TT) (te : TE) (fs : List Nat) : TE := fun σ H Q => wi σ H fun J H1 => CompRd J tc te fs σ H1 Q
section
variable {X : Cx} {elt iter : Expr} {x : Str} {px pos : Pos} {ifs : List Expr} {scope : Scope} {fv : List Str} {fs : List Nat} {wi : TI} {te : TE} {tc : TT}
theorem comp_run (hc : X.calm = true) (ok : CompOk X scope x fv fs) (hts : ∀ C s0 H0 fp, PTs (compX X (x :: fv) scope C s0 H0 fp) ifs tc) (he : ∀ C s0 H0 fp, PE (compX X (x :: fv) scope C s0 H0 fp) elt te)
    {pins : List (Addr × Obj)} {σ : St} {H : Hp} {s : Shared} {E : Value → Shared → Prop} {it : Addr} {fp : List Addr} {tn : Nat → Heap → Prop} {J : It} {Q : VK} (I : Inv X pins σ H s) (T : Turn X.prog X.w X.K (.Name x px) J fp it tn) (st : tn 0 s.heap)
    (hf : ∀ b ∈ fp, FpOk X pins H b)
    (rd : CompRd J tc te fs σ H Q)
    {RR : Value → Addr → Result → Shared → Prop}
    (hRR : ∀ D C s' H', Inv X pins σ H' s' → FpOk X pins H' C → (∃ m, s'.heap.Ns C m) → Q (.ref D) H' → RR (.ref D) C (.ok .next) s') :
    wpAny (model X.prog X.w) X.A (newList []) (fun acc s3 => wpAny (model X.prog X.w) X.A (newFunctionEnv scope X.env.globals (closL X.env.cells scope.names []) [] X.env.qual none .none (some X.env)) (fun cenv s4 =>
      codeAny (model X.prog X.w) X.A (.compStart (.ListComp elt [⟨.Name x px, iter, ifs, 0⟩] scope pos) 0 (.ref it) acc { cenv with scope := relabel scope X.env }) (RR acc cenv.locals) s4) E s3) E s := by
  obtain ⟨W, ⟨m0, w0⟩, turn⟩ := rd s.heap.objs.size I.fresh
  have I3 : Inv X pins σ (upd H s.heap.objs.size (.lst [])) { s with heap := s.heap.push { cls := .type "list", dict := none, data := .seq ([] : List Value).toArray } } := I.lnew (its := []) (ys := []) (t' := s.toks) .nil (Nat.zero_le _)
  refine wpAny_newObj_type ?_
  show wpAny _ _ _ _ _ ({ s with heap := s.heap.push { cls := .type "list", dict := none, data := .seq ([] : List Value).toArray } } : Shared)
  generalize hs3 : ({ s with heap := s.heap.push { cls := .type "list", dict := none, data := .seq ([] : List Value).toArray } } : Shared) = s3 at I3 ⊢
  refine wpAny_newFunctionEnv ok.nocell (fun y hy => absurd hy (by simp)) (fun h1 hns hsb => ?_) ok.kind
  have eh : s3.heap = s.heap.push { cls := .type "list", dict := none, data := .seq ([] : List Value).toArray } := by rw [← hs3]
  have up3 : ∀ b o, s.heap.get? b = some o → s3.heap.get? b = some o := fun b o e => by rw [eh]; exact Heap.get?_push_of_some _ e
  have hfo : ∀ b ∈ fp, ∃ o, s3.heap.get? b = some o := fun b hb => let ⟨o, ho, _⟩ := T.obj 0 _ st b hb; ⟨o, up3 b o ho⟩
  have neD : ∀ b ∈ fp, b ≠ s.heap.objs.size := fun b hb => let ⟨o, ho, _⟩ := T.obj 0 _ st b hb; Nat.ne_of_lt (Heap.lt_size ho)
  have hf3 : ∀ b ∈ fp, FpOk X pins (upd H s.heap.objs.size (.lst [])) b := fun b hb => ⟨by rw [upd_ne (neD b hb)]; exact (hf b hb).1, (hf b hb).2⟩
  have kept : ∀ b o, s3.heap.get? b = some o → h1.get? b = some o := fun b o e => hsb.extBut b o (Nat.ne_of_lt (Heap.lt_size e)) (Heap.get?_push_of_some _ e)
  have I4 := comp_enter (tk := s3.toks + ([] : List (Str × Value)).length) ok I3 hf3 hfo hns kept
  have st4 : tn 0 h1 := T.keep 0 _ _ st fun b hb o e => kept b o (up3 b o e)
  have stat : ∀ {H' : Hp}, (∀ b ∈ fp, H' b = none) → ∀ b ∈ fp, FpOk (compX X (x :: fv) scope s3.heap.objs.size s3 (upd H s.heap.objs.size (.lst [])) fp) [] H' b := fun hn b hb =>
    ⟨hn b hb, (I4.ok.exf b hb).1, I4.ok.exfs b hb, .inl hb, (I4.ok.exf b hb).2, fun p hp => absurd hp (by simp)⟩
  have hg : PG (compX X (x :: fv) scope s3.heap.objs.size s3 (upd H s.heap.objs.size (.lst [])) fp) (.Name x px) (gName 0) := pg_name ok.nd rfl (.inl (lookup_relabel_local ok.tg)) (.inr (lookup_relabel_local ok.tg))
  have loop : codeAny (model X.prog X.w) X.A (.compLoop (.ListComp elt [⟨.Name x px, iter, ifs, 0⟩] scope pos) 0 (.ref it) (.ref s.heap.objs.size) (compEnvC scope (closL X.env.cells scope.names []) s3.heap.objs.size X.env)) (RR (.ref s.heap.objs.size) s3.heap.objs.size)
      { s3 with heap := h1, toks := s3.toks + ([] : List (Str × Value)).length } := by
    refine comp_turns (fun n s' => ∃ i o H', Inv (compX X (x :: fv) scope s3.heap.objs.size s3 (upd H s.heap.objs.size (.lst [])) fp) [] (o :: pickS σ fs) H' s' ∧ tn i s'.heap ∧ (∀ b ∈ fp, H' b = none) ∧ W i n H') ?_ m0
      ⟨0, none, _, I4, st4, fun b hb => (hf3 b hb).1, w0⟩
    rintro n s5 ⟨i, o, H5, I5, st5, fr5, w5⟩
    rcases turn i n H5 w5 with ⟨stop, q⟩ | ⟨go, step⟩
    · refine thn (T.done (compX X (x :: fv) scope s3.heap.objs.size s3 (upd H s.heap.objs.size (.lst [])) fp) rfl rfl rfl hc i [] s5 _ H5 _ I5 (stat fr5) st5 stop) fun r s6 ⟨hr, I6⟩ => ?_
      subst hr
      obtain ⟨m, hm, _⟩ := I6.loc
      exact hRR _ _ s6 H5 (comp_leave I3 hf3 I6) (I3.fpOk (Nat.le_refl _) I6.free) ⟨m, hm⟩ q
    · refine thn (T.item (compX X (x :: fv) scope s3.heap.objs.size s3 (upd H s.heap.objs.size (.lst [])) fp) rfl rfl rfl hc i [] s5 _ H5 _ I5 (stat fr5) st5 go) fun r s6 ⟨u, hr, h6⟩ => ?_
      subst hr
      refine thn h6 fun _ s7 ⟨v, H7, I7, r7, y7, st7, fr7⟩ => ?_
      have I7' := I7.pinned (stat fr7) (T.obj _ _ st7)
      have back : ∀ {σ9 : St} {H9 : Hp} {s9 : Shared}, Inv (compX X (x :: fv) scope s3.heap.objs.size s3 (upd H s.heap.objs.size (.lst [])) fp) ([] ++ pinsAt fp s7.heap) σ9 H9 s9 → tn (i + 1) s9.heap ∧ ∀ b ∈ fp, H9 b = none := fun {σ9 H9 s9} I9 =>
        ⟨T.keep _ _ _ st7 fun b hb o e => (I9.pin (b, o) (mem_pinsAt hb e)).1, fun b hb => by
          obtain ⟨o, e, _⟩ := T.obj _ _ st7 b hb
          exact (I9.pin (b, o) (mem_pinsAt hb e)).2.1⟩
      refine thn (hg _ s7 _ H7 v u (fun σ2 H2 => σ2 = some v :: pickS σ fs ∧ H2 = H7) I7' r7 ⟨rfl, rfl⟩) fun _ s8 ⟨σ8, H8, I8, e8, e8'⟩ => ?_
      subst e8 e8'
      refine thn (hts _ _ _ _ _ s8 _ H8 _ I8 (step v H8 y7)) fun ok s9 ⟨H9, I9, q9⟩ => ?_
      cases ok with
      | false =>
        obtain ⟨m', hm', w9⟩ := q9
        obtain ⟨b1, b2⟩ := back I9
        exact ⟨m', hm', i + 1, some v, H9, I9.unpinned, b1, b2, w9⟩
      | true =>
        refine thn (he _ _ _ _ _ s9 _ H9 _ I9 q9) fun y s10 ⟨yv, H10, I10, r10, ys, hD, hz, m', hm', w10⟩ => ?_
        refine thn (mt_append _ s10 _ H10 (.ref s.heap.objs.size) [yv] (.ref s.heap.objs.size) [y] (fun _ H' => H' = upd H10 s.heap.objs.size (.lst (ys ++ [yv]))) I10 rfl (.cons r10 .nil) ⟨_, ys, yv, rfl, rfl, hD, hz, rfl⟩) fun _ s11 ⟨_, H11, I11, _, e11⟩ => ?_
        subst e11
        obtain ⟨b1, b2⟩ := back I11
        exact ⟨m', hm', i + 1, some v, _, I11.unpinned, b1, b2, w10⟩
  exact codeAny_compStart_list loop (T.self _ 0 _ _ _ st4 loop)
theorem pe_comp (hc : X.calm = true) (ok : CompOk X scope x fv fs) (hi : PI X (.Name x px) iter wi) (hts : ∀ C s0 H0 fp, PTs (compX X (x :: fv) scope C s0 H0 fp) ifs tc) (he : ∀ C s0 H0 fp, PE (compX X (x :: fv) scope C s0 H0 fp) elt te)
    (hs : ∀ x, foldedSetIterable iter X.env x = pure x := by intro _; rfl) : PE X (.ListComp elt [⟨.Name x px, iter, ifs, 0⟩] scope pos) (tComp wi tc te fs) := by
  intro pins s σ H Q I h
  rw [eval_ListComp]
  refine wpAny_comprehension_free (use := none) rfl hs (closureFor_closL (ok.cells I)) ok.kind ok.names (thn (hi pins s σ H _ I h) fun xv s1 h1 => thn h1 fun itv s2 h2 => ?_)
  obtain ⟨it, fp, tn, J, H2, rfl, I2, T, st2, f2, rd⟩ := h2
  exact comp_run hc ok hts he I2 T st2 f2 rd fun D C s' H' I' fC ⟨m, hm⟩ q => ⟨m, hm, fun h' hs' => ⟨.ref D, H', I'.off fC hs', rfl, q⟩⟩
theorem ps_setComp {i : Nat} {y : Str} {py spos : Pos} (hc : X.calm = true) (ok : CompOk X scope x fv fs) (hN : X.N.Nodup) (hiy : X.N[i]? = some y) (hy : Loc X.env.scope y) (hi : PI X (.Name x px) iter wi) (hts : ∀ C s0 H0 fp, PTs (compX X (x :: fv) scope C s0 H0 fp) ifs tc)
    (he : ∀ C s0 H0 fp, PE (compX X (x :: fv) scope C s0 H0 fp) elt te) (hsw : swapsWith (.ListComp elt [⟨.Name x px, iter, ifs, 0⟩] scope pos) (some (.Name y py)) spos.line X.env = pure true := by rfl)
    (hfn : X.fn y = true ∨ X.env.scope.names.lookup y = some .local := by first | exact .inl rfl | exact .inr rfl | assumption)
    (hs : ∀ x, foldedSetIterable iter X.env x = pure x := by intro _; rfl) : PS X (.Assign [.Name y py] (.ListComp elt [⟨.Name x px, iter, ifs, 0⟩] scope pos) spos) (fun D σ H => tComp wi tc te fs σ H fun v H' => D.nx (σ.set i (some v)) H') := by
  intro pins s σ H D I h
  rw [exec_Assign_Name_used _ _ _ _ hsw]
  refine wpAny_bind (wpAny_standAt (wpAny_bind ?_))
  show wpAny _ X.A (comprehension (.ListComp elt [⟨.Name x px, iter, ifs, 0⟩] scope pos) scope X.env _ (newList []) false (eval iter X.env) (some (assign (.Name y py) X.env)) >>= fun _ => pure ()) _ _ s
  refine wpAny_bind (thn (wpAny_comprehension_free (use := some (assign (.Name y py) X.env)) (Q := fun _ s' => SP X pins D .next s') rfl hs (closureFor_closL (ok.cells I)) ok.kind ok.names
    (thn (hi pins s σ H _ I h) fun xv s1 h1 => thn h1 fun itv s2 h2 => ?_)) fun _ s' hq => wpAny_pure (wpAny_pure hq))
  obtain ⟨it, fp, tn, J, H2, rfl, I2, T, st2, f2, rd⟩ := h2
  refine comp_run (Q := fun v H' => D.nx (σ.set i (some v)) H') hc ok hts he I2 T st2 f2 rd fun D' C s' H' I' fC ⟨m, hm⟩ q => ?_
  show wpAny _ X.A (assign (.Name y py) X.env (.ref D')) _ _ s'
  refine wpAny_assign_Name (store_ok2 I' hN hiy hy (v := .ref D') rfl (fun s'' I'' ⟨a, hsa, ha⟩ => ?_) hfn)
  have hCa : C ≠ a := by
    rcases ha with z | z
    · rw [z]; exact fC.2.1
    · exact fun e => fC.2.2.2.2.1 y a z e.symm
  exact ⟨m, hm.sameBut hsa hCa, fun h' hs' => ⟨_, H', I''.off fC hs', q⟩⟩
end

theorem comp_pure {J : It} {tc : TT} {te : TE} {fs : List Nat} {σ : St} {H : Hp} {Q : VK} {n : Nat} (item g : Nat → V) (p : Nat → Bool) (hn : n ≤ sizeLine)
    (hgo : ∀ i D ys, i < n → H D = none → J.go i (upd H D (.lst ys)))
    (hy : ∀ i D ys v H', i < n → H D = none → J.yld i (upd H D (.lst ys)) v H' → v = item i ∧ H' = upd H D (.lst ys))
    (hst : ∀ D ys, H D = none → J.stop n (upd H D (.lst ys)))
    (hc : ∀ i D ys (R : Bool → Hp → Prop), i < n → H D = none → R (p i) (upd H D (.lst ys)) → tc (some (item i) :: pickS σ fs) (upd H D (.lst ys)) R)
    (he : ∀ i D ys (R : VK), i < n → H D = none → p i = true → R (g i) (upd H D (.lst ys)) → te (some (item i) :: pickS σ fs) (upd H D (.lst ys)) R)
    (hQ : ∀ D, H D = none → Q (.ref D) (upd H D (.lst (((List.range n).filter p).map g)))) :
    CompRd J tc te fs σ H Q := by
  intro D hD
  refine ⟨fun i m H2 => m = n - i ∧ i ≤ n ∧ H2 = upd H D (.lst (((List.range i).filter p).map g)), ⟨n, by simp⟩, ?_⟩
  rintro i m H2 ⟨rfl, hi, rfl⟩
  by_cases hlt : i < n
  · refine .inr ⟨hgo i D _ hlt hD, fun v H3 yl => ?_⟩
    obtain ⟨rfl, rfl⟩ := hy i D _ v H3 hlt hD yl
    refine hc i D _ _ hlt hD ?_
    have er : ∀ b, p i = b → ((List.range (i + 1)).filter p).map g = ((List.range i).filter p).map g ++ (if b = true then [g i] else []) := fun b hb => by
      rw [List.range_succ, List.filter_append, List.map_append]
      cases b with
      | true => simp [hb]
      | false => simp [hb]
    cases hb : p i with
    | false =>
      show ∃ m', m' < n - i ∧ _
      refine ⟨n - (i + 1), by omega, rfl, hlt, ?_⟩
      rw [er false hb]
      simp
    | true =>
      show te _ _ _
      refine he i D _ _ hlt hD hb ⟨_, upd_same, ?_, n - (i + 1), by omega, rfl, hlt, ?_⟩
      · rw [List.length_map]
        have := List.length_filter_le p (List.range i)
        rw [List.length_range] at this
        omega
      · rw [upd_upd, er true hb]
        simp
  · have e : i = n := by omega
    subst e
    exact .inl ⟨hst D _ hD, hQ D hD⟩
end L2

namespace L2
open PySem PySem.Spec PyProof.Rows
theorem Same.put {H H' : Hp} {D : Addr} {o : HO} (s : Same H H') (h : H D = none) : Same H (upd H' D o) := fun b u e => by
  rw [upd_ne (ne_of_none e h)]
  exact s b u e
theorem Same.new {H : Hp} {D : Addr} {o : HO} (h : H D = none) : Same H (upd H D o) := (Same.refl H).put h
theorem comp_grow {J : It} {tc : TT} {te : TE} {fs : List Nat} {σ : St} {H : Hp} {Q : VK} {n : Nat} (item g : Nat → V) (p : Nat → Bool) (hn : n ≤ sizeLine)
    (hgo : ∀ i H2, i < n → Same H H2 → J.go i H2)
    (hy : ∀ i H2 v H', i < n → Same H H2 → J.yld i H2 v H' → v = item i ∧ H' = H2)
    (hst : ∀ H2, Same H H2 → J.stop n H2)
    (hc : ∀ i H2 (R : Bool → Hp → Prop), i < n → Same H H2 → (∀ H3, Same H2 H3 → R (p i) H3) → tc (some (item i) :: pickS σ fs) H2 R)
    (he : ∀ i H2 (R : VK), i < n → Same H H2 → p i = true → (∀ H3, Same H2 H3 → R (g i) H3) → te (some (item i) :: pickS σ fs) H2 R)
    (hQ : ∀ D H2, H D = none → Same H H2 → H2 D = some (.lst (((List.range n).filter p).map g)) → Q (.ref D) H2) :
    CompRd J tc te fs σ H Q := by
  intro D hD
  refine ⟨fun i m H2 => m = n - i ∧ i ≤ n ∧ Same H H2 ∧ H2 D = some (.lst (((List.range i).filter p).map g)), ⟨n, by simp, Nat.zero_le _, Same.new hD, upd_same⟩, ?_⟩
  rintro i m H2 ⟨rfl, hi, s2, d2⟩
  by_cases hlt : i < n
  · refine .inr ⟨hgo i H2 hlt s2, fun v H3 yl => ?_⟩
    obtain ⟨rfl, rfl⟩ := hy i H2 v H3 hlt s2 yl
    have er : ∀ b, p i = b → ((List.range (i + 1)).filter p).map g = ((List.range i).filter p).map g ++ (if b = true then [g i] else []) := fun b hb => by
      rw [List.range_succ, List.filter_append, List.map_append]
      cases b with
      | true => simp [hb]
      | false => simp [hb]
    refine hc i _ _ hlt s2 fun H4 s4 => ?_
    cases hb : p i with
    | false =>
      show ∃ m', m' < n - i ∧ _
      refine ⟨n - (i + 1), by omega, rfl, hlt, s2.trans s4, ?_⟩
      rw [er false hb, s4 _ _ d2]
      simp
    | true =>
      show te _ _ _
      refine he i _ _ hlt (s2.trans s4) hb fun H5 s5 => ⟨_, s5 _ _ (s4 _ _ d2), ?_, n - (i + 1), by omega, rfl, hlt, ((s2.trans s4).trans s5).put hD, ?_⟩
      · rw [List.length_map]
        have := List.length_filter_le p (List.range i)
        rw [List.length_range] at this
        omega
      · rw [upd_same, er true hb]
        simp
  · have e : i = n := by omega
    subst e
    exact .inl ⟨hst H2 s2, hQ D H2 hD s2 d2⟩
theorem comp_rel {J : It} {te : TE} {fs : List Nat} {σ : St} {H : Hp} {Q : VK} {n : Nat} (item : Nat → V) (Ok : Nat → V → Prop) (hn : n ≤ sizeLine)
    (hgo : ∀ i H2, i < n → Same H H2 → J.go i H2)
    (hy : ∀ i H2 v H', i < n → Same H H2 → J.yld i H2 v H' → v = item i ∧ H' = H2)
    (hst : ∀ H2, Same H H2 → J.stop n H2)
    (he : ∀ i H2 (R : VK), i < n → Same H H2 → (∀ y H3, Same H2 H3 → Ok i y → R y H3) → te (some (item i) :: pickS σ fs) H2 R)
    (hQ : ∀ D H2 ys, H D = none → Same H H2 → H2 D = some (.lst ys) → ys.length = n → (∀ (i : Nat) y, ys[i]? = some y → Ok i y) → Q (.ref D) H2) :
    CompRd J tYes te fs σ H Q := by
  intro D hD
  refine ⟨fun i m H2 => m = n - i ∧ i ≤ n ∧ Same H H2 ∧ ∃ ys, H2 D = some (.lst ys) ∧ ys.length = i ∧ ∀ (j : Nat) y, ys[j]? = some y → Ok j y, ⟨n, by simp, Nat.zero_le _, Same.new hD, [], upd_same, rfl, fun j y z => by simp at z⟩, ?_⟩
  rintro i m H2 ⟨rfl, hi, s2, ys, d2, ly, oy⟩
  by_cases hlt : i < n
  · refine .inr ⟨hgo i H2 hlt s2, fun v H3 yl => ?_⟩
    obtain ⟨rfl, rfl⟩ := hy i H2 v H3 hlt s2 yl
    show te _ _ _
    refine he i _ _ hlt s2 fun y H5 s5 ok5 => ⟨ys, s5 _ _ d2, by omega, n - (i + 1), by omega, rfl, hlt, (s2.trans s5).put hD, ys ++ [y], upd_same, by simp [ly], fun j z hz => ?_⟩
    by_cases hj : j < ys.length
    · rw [List.getElem?_append_left hj] at hz
      exact oy j z hz
    · rw [List.getElem?_append_right (by omega)] at hz
      have e : j - ys.length = 0 := by
        cases q : j - ys.length with
        | zero => rfl
        | succ q' => rw [q] at hz; simp at hz
      rw [e] at hz
      have : y = z := by simpa using hz
      subst this
      have : j = i := by omega
      subst this
      exact ok5
  · have e : i = n := by omega
    subst e
    exact .inl ⟨hst H2 s2, hQ D H2 ys hD s2 d2 ly oy⟩
end L2

set_option Elab.async false
set_option linter.all false
set_option maxRecDepth 100000
set_option maxHeartbeats 4000000
namespace L2
open PySem PySem.Spec PyProof.Rows
open Builtin Builtin.Str
theorem clip_nn (n m : Nat) : max 0 (min (m : Int) (n : Int)) = ((min m n : Nat) : Int) := by
  rw [Int.max_eq_right (Int.le_min.mpr ⟨Int.natCast_nonneg _, Int.natCast_nonneg _⟩)]
  by_cases h : m ≤ n
  · rw [Nat.min_eq_left h, Int.min_eq_left (Int.ofNat_le.mpr h)]
  · rw [Nat.min_eq_right (Nat.le_of_not_le h), Int.min_eq_right (Int.ofNat_le.mpr (Nat.le_of_not_le h))]
theorem clip_neg (n : Nat) {i : Int} (h : i < 0) : max 0 (min (i + (n : Int)) (n : Int)) = (((i + (n : Int)).toNat : Nat) : Int) := by
  rw [Int.min_eq_left (by omega), Int.toNat_eq_max, Int.max_comm]
theorem mod_dif {sh : Int} {i j : Nat} (hij : i < j) (hj : j < 6) (h : ((sh + 5 * (i : Int)) % 26).toNat = ((sh + 5 * (j : Int)) % 26).toNat) : False := by
  have h := congrArg (Nat.cast : Nat → Int) h
  rw [Int.toNat_of_nonneg (Int.emod_nonneg _ (by decide)), Int.toNat_of_nonneg (Int.emod_nonneg _ (by decide))] at h
  have := Int.emod_eq_emod_iff_emod_sub_eq_zero.mp h.symm
  rw [show sh + 5 * (j : Int) - (sh + 5 * (i : Int)) = 5 * ((j - i : Nat) : Int) by omega] at this
  have key : ∀ d : Nat, d < 6 → 0 < d → (5 * (d : Int)) % 26 ≠ 0 := by decide
  exact key (j - i) (by omega) (by omega) this
theorem strIx_eq (l u : Option Int) (n : Nat) : strSliceIndices l u 1 n = (List.range (HT.sIx n n u - HT.sIx n 0 l)).map (HT.sIx n 0 l + ·) := by
  have clip : ∀ (v : Option Int) (d : Nat), (match v with | none => (d : Int) | some i => max 0 (min (if i < 0 then i + (n : Int) else i) (n : Int))) = ((HT.sIx n d v : Nat) : Int) := by
    intro v d
    cases v with
    | none => rfl
    | some i =>
      show max 0 (min (if i < 0 then i + (n : Int) else i) (n : Int)) = (((if i < 0 then (i + (n : Int)).toNat else min i.toNat n) : Nat) : Int)
      by_cases h : i < 0
      · simp only [if_pos h]; exact clip_neg n h
      · simp only [if_neg h]
        obtain ⟨m, rfl⟩ := Int.eq_ofNat_of_zero_le (Int.not_lt.mp h)
        exact clip_nn n m
  have hl := clip l 0
  have hu := clip u n
  unfold strSliceIndices sliceRange
  simp only [show (1 : Int) > 0 by decide, if_true, Int.one_mul, Int.ediv_one]
  have e0 : ((0 : Nat) : Int) = 0 := rfl
  rw [e0] at hl
  have gen : ∀ (A B : Int) (a b : Nat), A = (a : Int) → B = (b : Int) → List.map (fun k : Nat => (A + (k : Int)).toNat) (List.range (if A < B then B - A + 1 - 1 else 0).toNat) = List.map (fun x => a + x) (List.range (b - a)) := by
    intro A B a b hA hB
    subst hA hB
    have ec : (if (a : Int) < (b : Int) then (b : Int) - (a : Int) + 1 - 1 else 0).toNat = b - a := by
      split <;> omega
    rw [ec]
    refine List.map_congr_left fun k _ => ?_
    omega
  exact gen _ _ _ _ hl hu
def cutN (xs : List Nat) (l u : Option Int) : List Nat := (xs.drop (HT.sIx xs.length 0 l)).take (HT.sIx xs.length xs.length u - HT.sIx xs.length 0 l)
theorem pick_range {α : Type} (xs : List α) (a k : Nat) (h : a + k ≤ xs.length) : ((List.range k).map (a + ·)).filterMap (xs[·]?) = (xs.drop a).take k := by
  rw [List.filterMap_map]
  induction k with
  | zero => simp
  | succ k ih =>
    rw [List.range_succ, List.filterMap_append, ih (by omega)]
    have hk : a + k < xs.length := by omega
    have e : (xs.drop a)[k]? = some (xs[a + k]) := by
      rw [List.getElem?_drop]
      exact List.getElem?_eq_getElem hk
    rw [List.take_add_one, e]
    simp [hk]
theorem slice_signs (x : Str) (l u : Option Int) : (Txt.slice x l u).cps.toList = cutN x.cps.toList l u := by
  have hlen : x.cps.toList.length = x.length := by rw [Array.length_toList]; rfl
  have hb : HT.sIx x.length x.length u ≤ x.length := by
    cases u with
    | none => exact Nat.le_refl _
    | some v =>
      show (if v < 0 then (v + (x.length : Int)).toNat else min v.toNat x.length) ≤ x.length
      split <;> omega
  unfold Txt.slice cutN
  rw [hlen, strIx_eq]
  generalize ha : HT.sIx x.length 0 l = a
  generalize hbb : HT.sIx x.length x.length u = b at hb
  by_cases hab : a ≤ b
  · split
    · rename_i h
      simp at h
      have : b - a = x.length := h
      have a0 : a = 0 := by omega
      have b0 : b = x.length := by omega
      subst a0
      rw [b0, ← hlen, List.drop_zero, Nat.sub_zero, List.take_length]
    · show (List.filterMap (fun i => x.cps[i]?) _).toArray.toList = _
      rw [List.toList_toArray]
      have e : (fun i : Nat => x.cps[i]?) = fun i : Nat => x.cps.toList[i]? := by
        funext i
        exact (Array.getElem?_toList).symm
      rw [e]
      exact pick_range _ a (b - a) (by omega)
  · have z : b - a = 0 := by omega
    rw [z]
    simp only [List.range_zero, List.map_nil, List.take_zero]
    split
    · rename_i h
      simp at h
      have : x.cps.toList = [] := List.eq_nil_of_length_eq_zero (by rw [hlen]; exact h.symm)
      exact this
    · rfl
end L2

namespace L2
open PySem PySem.Spec PyProof.Rows
section
variable {X : Cx}
inductive rSlSI (x : V) (lo : Option Int) (hi : Option Int) (H : Hp) (Q : VK) : Prop
  | mk (z : _) (x0 : x = .str z) (x1 : z.length ≤ sizeLine) (x2 : Q (.str (Txt.slice z lo hi)) H) : rSlSI  x lo hi H Q
def rSlS : V → Option Int → Option Int → Hp → VK → Prop := fun x lo hi H Q => rSlSI  x lo hi H Q
theorem sl_str : SlR X rSlS := by
  intro pins s σ H x v vl vu lo hi sl Q I rx hs pl pu h
  obtain ⟨z, rfl, hz, q⟩ := h
  obtain ⟨t, rfl⟩ := rx
  refine ⟨"str", _, F.slot_str_getitem.lookup, typeIs_str _ _ _, ?_⟩
  have fin : ∀ t' k, EP X pins σ Q (.str (Txt.slice z lo hi) t') { s with toks := k } := fun t' k => ⟨.str _, H, I.tok k, ⟨t', rfl⟩, q⟩
  cases pl with
  | none =>
    cases pu with
    | none => exact wpAny_getItem_str_slice (l := none) (u := none) (st := none) hs rfl (post_val_or_str ⟨Nat.le_trans (Txt.slice_le z _ _) hz, fin⟩)
    | int j tj => exact wpAny_getItem_str_slice (l := none) (u := some (j, tj)) (st := none) hs rfl (post_val_or_str ⟨Nat.le_trans (Txt.slice_le z _ _) hz, fin⟩)
  | int i ti =>
    cases pu with
    | none => exact wpAny_getItem_str_slice (l := some (i, ti)) (u := none) (st := none) hs rfl (post_val_or_str ⟨Nat.le_trans (Txt.slice_le z _ _) hz, fin⟩)
    | int j tj => exact wpAny_getItem_str_slice (l := some (i, ti)) (u := some (j, tj)) (st := none) hs rfl (post_val_or_str ⟨Nat.le_trans (Txt.slice_le z _ _) hz, fin⟩)
end

section
variable {X : Cx} {tg : Expr}
inductive r_call_allI (K : PySem.W.Frag) (xs : List V) (H : Hp) (Q : VK) : Prop
  | mk (p : Addr) (bs : List Bool) (h0_ : xs = [.ref p]) (h1_ : SqL K H p (bs.map V.bl)) (h2_ : Q (.bl (bs.all id)) H) : r_call_allI K xs H Q
def r_call_all (K : PySem.W.Frag) : List V → Hp → VK → Prop := fun xs H Q => r_call_allI K xs H Q
theorem call_all (hc : X.calm = true) : CallR X (.builtin "all") (r_call_all X.K) := by
  intro pins s σ H xs us Q I r h
  obtain ⟨p, bs, rfl, hp, q⟩ := h
  obtain ⟨u, rfl, ru⟩ := vals1 r
  cases ru
  obtain ⟨its, rv, pl, hz⟩ := I.list hp
  obtain ⟨ob, hob, hob'⟩ := id pl.isList
  have hlt : p < s.heap.objs.size := Heap.lt_size hob
  have hin : X.A.in1.handled = none := I.ok.hd hc
  have hlen : its.toArray.size = bs.length := by rw [List.size_toArray, ← rv.length, List.length_map]
  refine call_all_walk (wpAny_pyIter_list pl.isList ⟨s.heap.objs.size, _, _, _, _, _, fun i => bs.getD i true, rfl, Walks.list hin s.heap.objs.size p (Nat.ne_of_lt hlt) its.toArray, ⟨⟨_, Heap.get?_push_size _ rfl, rfl, rfl⟩, ⟨ob, Heap.get?_push_of_some _ hob, hob'⟩⟩, ?_, fun h' tk kept => ?_⟩)
  · intro i v s' Q' E' hv hq
    have hv : its[i]? = some v := by simpa using hv
    have hi : i < bs.length := by
      have := (List.getElem?_eq_some_iff.mp hv).1
      rw [← rv.length, List.length_map] at this
      exact this
    have e : (bs.map V.bl)[i]? = some (V.bl bs[i]) := by rw [List.getElem?_map, List.getElem?_eq_getElem hi]; rfl
    obtain ⟨u, hu, ru⟩ := rv.get e
    rw [hv] at hu
    cases hu
    cases ru
    have e2 : bs.getD i true = bs[i] := by rw [List.getD_eq_getElem?_getD, List.getElem?_eq_getElem hi]; rfl
    have hq : Q' (bs.getD i true) s' := hq
    rw [e2] at hq
    exact wpAny_truthy_bool hq
  · refine ⟨.bl (bs.all id), H, I.kept (t' := tk) fun b o e => kept b o (fun z => ?_) (Heap.get?_push_of_some _ e), ?_, q⟩
    · have e' : b = s.heap.objs.size := by simpa using z
      exact Nat.ne_of_lt (Heap.lt_size e) e'
    · show Value.bool _ = Value.bool _
      congr 1
      rw [hlen, Bool.eq_iff_iff, List.all_eq_true, List.all_eq_true]
      constructor
      · intro hall b hb
        obtain ⟨i, hi, rfl⟩ := List.mem_iff_getElem.mp hb
        have := hall i (List.mem_range.mpr hi)
        rw [List.getD_eq_getElem?_getD, List.getElem?_eq_getElem hi] at this
        exact this
      · intro hall i hi
        have hi := List.mem_range.mp hi
        rw [List.getD_eq_getElem?_getD, List.getElem?_eq_getElem hi]
        exact hall _ (List.getElem_mem hi)
theorem strsAre_of {ys : List Str} : ∀ {us : List Value}, Vals (ys.map V.str) us → StrsAre us ys := by
  induction ys with
  | nil => intro us r; rw [List.map_nil] at r; cases r; exact .nil
  | cons n ns ih =>
    intro us r
    rw [List.map_cons] at r
    cases r with
    | cons r1 r2 =>
      obtain ⟨t, e⟩ := r1
      subst e
      exact .cons n t (ih r2)
inductive rJoinI (K : PySem.W.Frag) (x : V) (vs : List V) (H : Hp) (Q : VK) : Prop
  | mk (z : Str) (p : Addr) (ys : List Str) (x0 : x = .str z) (x1 : vs = [.ref p]) (x2 : SqL K H p (ys.map V.str)) (x3 : (ys.map (·.length)).sum + ys.length * z.length ≤ 16777216) (x4 : Q (.str (Txt.join z ys)) H) : rJoinI K x vs H Q
def rJoin (K : PySem.W.Frag) : V → List V → Hp → VK → Prop := fun x vs H Q => rJoinI K x vs H Q
theorem mt_join : MtR X "str.join" (rJoin X.K) := by
  intro pins s σ H x vs v us Q I rx rv h
  obtain ⟨z, p, ys, rfl, rfl, hp, hz, q⟩ := h
  obtain ⟨t, rfl⟩ := rx
  obtain ⟨u, rfl, ru⟩ := rv.one
  cases ru
  obtain ⟨its, r, pl, _⟩ := I.list hp
  exact join_list pl.isList (by rw [List.toList_toArray]; exact strsAre_of r) hz fun t' k => ⟨.str _, H, I.tok k, ⟨t', rfl⟩, q⟩
inductive r_op_mul_strI (x : V) (y : V) (H : Hp) (Q : VK) : Prop
  | mk (z : _) (n : _) (h0_ : x = .str z) (h1_ : y = .int n) (h2_ : MulOk z n) (h3_ : Q (.str (Txt.mul z n)) H) : r_op_mul_strI x y H Q
inductive r_op_isBI (x : V) (y : V) (H : Hp) (Q : VK) : Prop
  | mk (a : _) (b : _) (h0_ : x = .bl a) (h1_ : y = .bl b) (h2_ : Q (.bl (a == b)) H) : r_op_isBI x y H Q
inductive r_op_isNotBI (x : V) (y : V) (H : Hp) (Q : VK) : Prop
  | mk (a : _) (b : _) (h0_ : x = .bl a) (h1_ : y = .bl b) (h2_ : Q (.bl (!(a == b))) H) : r_op_isNotBI x y H Q
inductive r_call_isi1I (K : PySem.W.Frag) (xs : List V) (H : Hp) (Q : VK) : Prop
  | mk (x : _) (T : _) (t : _) (b : _) (h0_ : xs = [x, .ty T]) (h1_ : TyOf K H x t) (h2_ : PySem.W.kitOne K t (.type T) = some b) (h3_ : Q (.bl b) H) : r_call_isi1I K xs H Q
inductive rInsertI (x : V) (vs : List V) (H : Hp) (Q : VK) : Prop
  | mk (l : _) (xs : _) (i : _) (y : _) (x0 : x = .ref l) (x1 : vs = [.int ((i : Nat) : Int), y]) (x2 : H l = some (.lst xs)) (x3 : i ≤ xs.length) (x4 : xs.length < sizeLine) (x5 : Q .non (upd H l (.lst (xs.take i ++ y :: xs.drop i)))) : rInsertI  x vs H Q
def rInsert : V → List V → Hp → VK → Prop := fun x vs H Q => rInsertI  x vs H Q
theorem mt_insert : MtM X "list.insert" rInsert := by
  intro pins s σ H x vs v us Q I rx rv h
  obtain ⟨l, xs, i, y, rfl, rfl, hH, hi, hz, q⟩ := h
  cases rx
  obtain ⟨u1, u2, rfl, ⟨t, e1⟩, ry⟩ := rv.two
  subst e1
  obtain ⟨z, its, n, r, hl, e⟩ := I.lstM hH
  have hzi : its.toArray.size ≤ sizeLine := by rw [List.size_toArray, ← hl]; exact Nat.le_of_lt hz
  have h63 : i < 2 ^ 63 := Nat.lt_of_le_of_lt (Nat.le_trans hi (Nat.le_of_lt hz)) line63
  have hil : i ≤ its.length := by rw [← hl]; exact hi
  obtain ⟨x, hx⟩ : ∃ x : Int, x = (i : Int) := ⟨_, rfl⟩
  rw [← hx]
  have hfit : ¬ (!Builtin.List.listFitsIndex x) = true := by
    have : Builtin.List.listFitsIndex x = true := by
      unfold Builtin.List.listFitsIndex
      simp only [Bool.and_eq_true, decide_eq_true_eq]
      constructor <;> omega
    simp [this]
  have e3 : ∀ m : Nat, its.length = m → (if x < 0 then (x + (m : Int)).toNat else min x.toNat m) = i := fun m hm => by
    rw [if_neg (by omega)]
    omega
  refine call_meets PySem.F.slot_list_insert ⟨_, e, rfl⟩ PySem.F.entry_list_insert (PySem.F.args_list_insert_3 _ _ _) (PySem.AutoSeq1.list_insert_list_int_val_1 l its.toArray n x t u2 hfit hzi) ⟨e, ?_⟩
  refine ⟨.non, _, I.lset (its' := its.take i ++ u2 :: its.drop i) hH e ?_ ((r.take i).append (.cons ry (r.drop i))) ?_, rfl, q⟩
  · show (its.toArray.extract 0 (if x < 0 then (x + (its.toArray.size : Int)).toNat else min x.toNat its.toArray.size)).push u2 ++ its.toArray.extract (if x < 0 then (x + (its.toArray.size : Int)).toNat else min x.toNat its.toArray.size) = _
    rw [e3 its.toArray.size (List.size_toArray ..).symm]
    apply Array.toList_inj.mp
    simp [List.take_of_length_le]
  · simp only [List.length_append, List.length_take, List.length_cons, List.length_drop]
    omega
end
end L2

set_option Elab.async false
set_option linter.all false
set_option maxRecDepth 100000
set_option maxHeartbeats 4000000
namespace L2
open PySem PySem.Spec PyProof.Rows
section
variable {X : Cx}
inductive rCatEI (x : V) (y : V) (H : Hp) (Q : VK) : Prop
  | mk (a : _) (b : _) (xs : _) (ys : _) (x0 : x = .ref a) (x1 : y = .ref b) (x2 : H a = some (.tup xs)) (x3 : H b = some (.tup ys)) (x4 : xs.length + ys.length ≤ sizeLine) (x5 : ∀ p H', Same H H' → H' p = some (.tup (xs ++ ys)) → Q (.ref p) H') : rCatEI  x y H Q
def rCatE : R2 := fun x y H Q => rCatEI  x y H Q
theorem op_catE : OpR X (binaryOp .Add) rCatE := by
  intro pins s σ H x y v u Q I rx ry h
  obtain ⟨a, b, xs, ys, rfl, rfl, ha, hb, hz, q⟩ := h
  by_cases hx : xs = []
  · cases rx
    cases ry
    obtain ⟨its, r1, p1, _⟩ := I.tuple (SqT.of ha)
    obtain ⟨its2, r2, p2, _⟩ := I.tuple (SqT.of hb)
    obtain ⟨⟨cls, dd, data, sl⟩, ho, hc, n, hd⟩ := id p1
    obtain ⟨⟨cls2, dd2, data2, sl2⟩, ho2, hc2, n2, hd2⟩ := id p2
    simp only at hc hd hc2 hd2
    subst hc hd hc2 hd2
    have he : its = [] := r1.nil_iff.mpr hx
    refine concat_meets ⟨_, ho, rfl⟩ ⟨_, ho2, rfl⟩ noFill_tuple_add seq_tuple_add PySem.F.slot_tuple_add PySem.F.entry_tuple_add (PySem.F.args_tuple_add_2 _ _)
      (tuple_addW0 a b its.toArray its2.toArray n n2 dd dd2 sl sl2 (by simp [he])) ⟨ho, ho2, ?_⟩
    refine ⟨.ref b, H, I.tok s.toks, rfl, q b H (Same.refl H) ?_⟩
    rw [hx]
    exact hb
  · refine op_catT pins s σ H (.ref a) (.ref b) v u Q I rx ry ⟨a, b, xs, ys, rfl, rfl, SqT.of ha, SqT.of hb, hx, hz, fun e => ?_, fun e p hp => q p _ (Same.new hp) upd_same⟩
    refine q a H (Same.refl H) ?_
    rw [e, List.append_nil]
    exact ha
end
end L2
namespace HT
open PySem PyProof.Rows
section
variable {prog : Program} {w : World} {A : Around} {E : Value → Shared → Prop} {s : Shared}
theorem getItem_tuple_all {t sl : Addr} {items : Array Value} {vl vu : Value} {lo hi : Option Int} {Q : Value → Shared → Prop} (ht : IsTup s.heap t items) (hs : s.heap.IsSliceOf sl vl vu .none) (pl : IsPart vl lo) (pu : IsPart vu hi)
    (hw : sIx items.size 0 lo = 0 ∧ sIx items.size items.size hi = items.size) (h : Q (.ref t) s) : wpAny (model prog w) A (getItem (.ref t) (.ref sl)) Q E s := by
  obtain ⟨os, hos, hcs, hds⟩ := id hs
  have hTs : s.TypeIs (.ref sl) "slice" := ⟨os, hos, hcs⟩
  unfold getItem
  try with_reducible refine wpAny_holding ?_
  first | refine wpAny_bind (wpAny_pure ?_) | skip
  refine wpAny_bind (wpAny_sequenceKey ht.typeIs (by decide) ?_)
  refine wpAny_bind (wpAny_callSpecial?_slot (name := Str.ofString "__getitem__") ht.typeIs PyProof.Rows.slot_tuple_getitem
    (wpAny_call_entry PyProof.Rows.slot_tuple_getitem ht.typeIs entry_tuple_getitem ?_ (args_tuple_getitem _ _)))
  show wpAny _ _ (Builtin.Tuple.tupleItemsOf (.ref t) >>= _) _ _ s
  refine wpAny_bind (tupleItemsOf_ ht ?_)
  refine wpAny_bind (wpAny_typeOf hTs ?_)
  rw [if_pos (by decide)]
  refine wpAny_bind (sliceApplied_gen hs pl pu ?_)
  have hyes : (((sIx items.size 0 lo : Nat) : Int) == 0 && (1 : Int) == 1 && (sIx items.size items.size hi - sIx items.size 0 lo) == items.size) = true := by
    rw [hw.1, hw.2]
    simp
  show wpAny _ _ (if (((sIx items.size 0 lo : Nat) : Int) == 0 && (1 : Int) == 1 && (sIx items.size items.size hi - sIx items.size 0 lo) == items.size) = true then _ else _) _ _ s
  rw [if_pos hyes]
  refine wpAny_bind (m := Builtin.Tuple.tupleIsExact _) ?_
  unfold Builtin.Tuple.tupleIsExact
  first
    | refine wpAny_bind (wpAny_typeOf ht.typeIs (wpAny_pure ?_))
    | refine wpAny_typeOf ht.typeIs ?_
  rw [if_pos (by decide)]
  exact wpAny_bind (wpAny_rule (wpAny_pure ⟨_, rfl, wpAny_pure h⟩))
end
end HT
namespace L2
open PySem PySem.Spec PyProof.Rows
section
variable {X : Cx}
inductive rSlEI (x : V) (lo : Option Int) (hi : Option Int) (H : Hp) (Q : VK) : Prop
  | mk (a : _) (xs : _) (x0 : x = .ref a) (x1 : H a = some (.tup xs)) (x2 : ∀ p H', Same H H' → H' p = some (.tup (cutV xs lo hi)) → Q (.ref p) H') : rSlEI  x lo hi H Q
def rSlE : V → Option Int → Option Int → Hp → VK → Prop := fun x lo hi H Q => rSlEI  x lo hi H Q
theorem sl_tupE : SlR X rSlE := by
  intro pins s σ H x v vl vu lo hi sl Q I rx hs pl pu h
  obtain ⟨a, xs, rfl, hx, q⟩ := h
  by_cases hw : HT.sIx xs.length 0 lo = 0 ∧ HT.sIx xs.length xs.length hi = xs.length
  · cases rx
    obtain ⟨its, r, ht, hz⟩ := I.tuple (SqT.of hx)
    have hlen : its.toArray.size = xs.length := by rw [List.size_toArray]; exact r.length.symm
    refine ⟨"tuple", _, PyProof.Rows.slot_tuple_getitem.lookup, ht.typeIs, ?_⟩
    refine HT.getItem_tuple_all ht hs pl pu (by rw [hlen]; exact hw) ⟨.ref a, H, I, rfl, q a H (Same.refl H) ?_⟩
    unfold cutV
    rw [hw.1, hw.2, List.drop_zero, Nat.sub_zero, List.take_length]
    exact hx
  · exact sl_tup pins s σ H (.ref a) v vl vu lo hi sl Q I rx hs pl pu ⟨a, xs, rfl, SqT.of hx, hw, fun p hp => q p _ (Same.new hp) upd_same⟩
end
end L2

set_option Elab.async false
set_option linter.all false
set_option maxRecDepth 100000
set_option maxHeartbeats 4000000
namespace L2
open PySem PySem.Spec PyProof.Rows
inductive TyN (H : Hp) : V → String → Prop where
  | non : TyN H .non "NoneType"
  | bl (b : Bool) : TyN H (.bl b) "bool"
  | int (i : Int) : TyN H (.int i) "int"
  | str (x : Str) : TyN H (.str x) "str"
  | lst {a : Addr} {xs : List V} (e : Rd H a (.lst xs)) : TyN H (.ref a) "list"
  | tup {a : Addr} {xs : List V} (e : H a = some (.tup xs)) : TyN H (.ref a) "tuple"
  | dK {a : Addr} {kvs : List (Key × V)} (e : Rd H a (.dK kvs)) : TyN H (.ref a) "dict"
theorem Rd.up {H H' : Hp} {a : Addr} {u : HO} (h : Rd H a u) (s : ∀ o, H a = some o → H' a = some o) : Rd H' a u := by
  rcases h with h | ⟨o, h⟩
  · exact .inl (s _ h)
  · exact .inr ⟨o, s _ h⟩
def isiB (T c : String) : Bool := T == c || (T == "bool" && c == "int")
def isiC (c : String) : Bool := ["int", "bool", "str", "list", "tuple", "dict"].contains c
theorem kit_isi {K : PySem.W.Frag} {H : Hp} {v : V} {T c : String} (h : TyN H v T) (hc : isiC c = true) : PySem.W.kitOne K (.type T) (.type c) = some (isiB T c) := by
  have hc : c = "int" ∨ c = "bool" ∨ c = "str" ∨ c = "list" ∨ c = "tuple" ∨ c = "dict" := by
    unfold isiC at hc
    simpa using hc
  cases h <;> rcases hc with rfl | rfl | rfl | rfl | rfl | rfl <;> kernel_rfl
section
variable {X : Cx}
inductive rIsiI (xs : List V) (H : Hp) (Q : VK) : Prop
  | mk (x : _) (c : _) (T : _) (x0 : xs = [x, .ty c]) (x1 : isiC c = true) (x2 : TyN H x T) (x3 : Q (.bl (isiB T c)) H) : rIsiI  xs H Q
def rIsi : List V → Hp → VK → Prop := fun xs H Q => rIsiI  xs H Q
theorem isinst_N {pins : List (Addr × Obj)} {σ : St} {H : Hp} {s : Shared} {A : Around} {E : Value → Shared → Prop} {Q : Value → Shared → Prop} {x : V} {u : Value} {T c : String} {b : Bool} (I : Inv X pins σ H s) (rx : RelV x u) (ty : TyN H x T) (e : PySem.W.kitOne X.K (.type T) (.type c) = some b) (h : ∀ tk, Q (.bool b) { s with toks := tk }) :
    wpAny (model X.prog X.w) A (call (.builtin "isinstance") [u, .type c]) Q E s := by
  cases ty with
  | non => exact isinst_ok I rx .non e h
  | bl y => exact isinst_ok I rx (.bl y) e h
  | int i => exact isinst_ok I rx (.int i) e h
  | str y => exact isinst_ok I rx (.str y) e h
  | tup ea => exact isinst_ok I rx (.tup ea) e h
  | @lst a xs ea =>
    cases (show u = Value.ref a from rx)
    obtain ⟨_, _, n, _, h1⟩ := (show ObjOk X.prog X.w H s.heap a (.lst xs) from ea.ok I.hok)
    exact PySem.W.kia_one PySem.W.kitx_list I.kIn ⟨_, h1, rfl⟩ e (fun z => nomatch z) h
  | @dK a kvs ea =>
    cases (show u = Value.ref a from rx)
    obtain ⟨_, _, vs, _, p⟩ := (show ObjOk X.prog X.w H s.heap a (.dK kvs) from ea.ok I.hok)
    obtain ⟨o, es, ep, h1, h2, _⟩ := p
    exact PySem.W.kia_one PySem.W.kitx_dict I.kIn ⟨o, h1, h2.1⟩ e (fun z => nomatch z) h
theorem call_isiN : CallR X (.builtin "isinstance") rIsi := by
  intro pins s σ H xs us Q I r h
  obtain ⟨x, c, T, rfl, hc, ty, q⟩ := h
  obtain ⟨u, w', rfl, ru, rw'⟩ := vals2 r
  cases rw'
  exact isinst_N I ru ty (kit_isi ty hc) fun tk => ⟨.bl _, H, I.tok tk, rfl, q⟩
end
end L2

set_option Elab.async false
set_option linter.all false
namespace L2
open PySem PySem.Spec PyProof.Rows
theorem op_mulB {X : Cx} : OpR X (binaryOp .Mult) (rI (fun i j => i.natAbs < 2 ^ 400 ∧ j.natAbs < 2 ^ 400) fun i j => .int (i * j)) :=
  opI fun _ _ _ _ _ _ _ hc q => mul_int q (.of_bits (Nat.le_trans (PyProof.Rows.intBits_le hc.1) (by decide)) (Nat.le_trans (PyProof.Rows.intBits_le hc.2) (by decide)))
end L2

set_option Elab.async false
set_option linter.all false
set_option maxRecDepth 100000
set_option maxHeartbeats 4000000
namespace L2
open PySem PySem.Spec PyProof.Rows
open Builtin Builtin.Str
abbrev sgn (x : Str) : List Nat := x.cps.toList
def LET : List Nat := sgn "abcdefghijklmnopqrstuvwxyz"
def isL (c : Nat) : Bool := decide (c ∈ LET)
theorem sgn_length (x : Str) : (sgn x).length = x.length := by
  show x.cps.toList.length = x.cps.size
  exact Array.length_toList
theorem sgn_append (x y : Str) : sgn (x ++ y) = sgn x ++ sgn y := by
  show (x.cps ++ y.cps).toList = _
  exact Array.toList_append
theorem sgn_slice (x : Str) (l u : Option Int) : sgn (Txt.slice x l u) = cutN (sgn x) l u := slice_signs x l u
def nameS (l : List Nat) : Bool := decide (1 ≤ l.length) && decide (l.length ≤ 8) && l.all isL
def nameB (x : Str) : Bool := nameS (sgn x)
theorem sgn_join (ys : List Str) : sgn (Txt.join "" ys) = (ys.map sgn).flatten := by
  have h : ∀ ys : List Str, sgn (Str.join "" ys) = (ys.map sgn).flatten := by
    intro ys
    induction ys with
    | nil => rfl
    | cons x r ih =>
      cases r with
      | nil =>
        show sgn x = _
        simp
      | cons y r =>
        show sgn (x ++ "" ++ Str.join "" (y :: r)) = _
        rw [sgn_append, sgn_append, ih]
        have : sgn ("" : Str) = [] := by decide
        rw [this]
        simp
  show sgn (Builtin.Str.glued "" ys) = _
  rw [StrLaws.glued_eq_join]
  exact h ys
theorem sIx_n (n d k : Nat) : HT.sIx n d (some (k : Int)) = min k n := by
  show (if (k : Int) < 0 then ((k : Int) + (n : Int)).toNat else min (k : Int).toNat n) = min k n
  rw [if_neg (by omega), Int.toNat_natCast]
theorem cut_to (l : List Nat) (k : Nat) : cutN l none (some (k : Int)) = l.take k := by
  unfold cutN
  have e := sIx_n l.length l.length k
  rw [e]
  show (l.drop 0).take (min k l.length - 0) = _
  rw [List.drop_zero, Nat.sub_zero, List.take_eq_take_min]
  simp
theorem cut_from (l : List Nat) (k : Nat) : cutN l (some (k : Int)) none = l.drop k := by
  unfold cutN
  have e := sIx_n l.length 0 k
  rw [e]
  show (l.drop (min k l.length)).take (l.length - min k l.length) = _
  have : (l.drop (min k l.length)).length = l.length - min k l.length := List.length_drop
  rw [← this, List.take_length]
  by_cases h : k ≤ l.length
  · rw [Nat.min_eq_left h]
  · rw [Nat.min_eq_right (by omega), List.drop_eq_nil_of_le (by omega), List.drop_eq_nil_of_le (by omega)]
theorem cut_mid (l : List Nat) (a b : Nat) (hab : a ≤ b) (hb : b ≤ l.length) : cutN l (some (a : Int)) (some (b : Int)) = (l.take b).drop a := by
  unfold cutN
  have e1 : HT.sIx l.length 0 (some (a : Int)) = a := (sIx_n _ _ a).trans (Nat.min_eq_left (by omega))
  have e2 : HT.sIx l.length l.length (some (b : Int)) = b := (sIx_n _ _ b).trans (Nat.min_eq_left hb)
  rw [e1, e2, List.drop_take]
theorem all_take {l : List Nat} {p : Nat → Bool} (h : l.all p = true) (k : Nat) : (l.take k).all p = true := by
  rw [List.all_eq_true] at h ⊢
  exact fun x hx => h x (List.mem_of_mem_take hx)
theorem all_drop {l : List Nat} {p : Nat → Bool} (h : l.all p = true) (k : Nat) : (l.drop k).all p = true := by
  rw [List.all_eq_true] at h ⊢
  exact fun x hx => h x (List.mem_of_mem_drop hx)
theorem isL_of_mem {c : Nat} (h : c ∈ LET) : isL c = true := decide_eq_true h
theorem nameS_mk {l : List Nat} (h1 : 1 ≤ l.length) (h2 : l.length ≤ 8) (h3 : l.all isL = true) : nameS l = true := by
  unfold nameS
  simp only [Bool.and_eq_true, decide_eq_true_eq]
  exact ⟨⟨h1, h2⟩, h3⟩
end L2

set_option Elab.async false
set_option linter.all false
set_option maxRecDepth 100000
set_option maxHeartbeats 4000000
namespace L2
open PySem PySem.Spec PyProof.Rows
inductive Dc where
  | leaf (v : V)
  | row (a : Addr) (xs : List Dc)
  | tab (a : Addr) (ks : List Str) (xs : List Dc)
namespace Dc
def val : Dc → V
  | leaf v => v
  | row a _ => .ref a
  | tab a _ _ => .ref a
mutual
def addrs : Dc → List Addr
  | leaf _ => []
  | row a xs => a :: addrsL xs
  | tab a _ xs => a :: addrsL xs
def addrsL : List Dc → List Addr
  | [] => []
  | x :: r => addrs x ++ addrsL r
end
mutual
def size : Dc → Nat
  | leaf _ => 1
  | row _ xs => 1 + sizeL xs
  | tab _ _ xs => 1 + sizeL xs
def sizeL : List Dc → Nat
  | [] => 0
  | x :: r => size x + sizeL r
end
def Lf (v : V) : Prop := (∃ i, v = .int i) ∨ ∃ x : Str, v = .str x ∧ x.length ≤ 100
def kvs (ks : List Str) (xs : List Dc) : List (Key × V) := (ks.zip (xs.map val)).map fun p => (Sum.inr p.1, p.2)
mutual
def At (H : Hp) : Dc → Prop
  | leaf v => Lf v
  | row a xs => Rd H a (.lst (xs.map val)) ∧ AtL H xs
  | tab a ks xs => Rd H a (.dK (kvs ks xs)) ∧ ks.length = xs.length ∧ ks.Nodup ∧ AtL H xs
def AtL (H : Hp) : List Dc → Prop
  | [] => True
  | x :: r => At H x ∧ AtL H r
end
mutual
def put (b : Addr) (i : Nat) (k : Str) (p : Dc) : Dc → Dc
  | leaf v => leaf v
  | row a xs => if a = b then row a (xs.take i ++ p :: xs.drop i) else row a (putL b i k p xs)
  | tab a ks xs => if a = b then tab a (ks ++ [k]) (xs ++ [p]) else tab a ks (putL b i k p xs)
def putL (b : Addr) (i : Nat) (k : Str) (p : Dc) : List Dc → List Dc
  | [] => []
  | x :: r => put b i k p x :: putL b i k p r
end
theorem size_pos (d : Dc) : 1 ≤ d.size := by
  cases d <;> simp only [size] <;> omega
theorem putL_length (b : Addr) (i : Nat) (k : Str) (p : Dc) : ∀ xs, (putL b i k p xs).length = xs.length
  | [] => rfl
  | x :: r => by simp only [putL, List.length_cons, putL_length b i k p r]
theorem put_val (b : Addr) (i : Nat) (k : Str) (p d : Dc) : (put b i k p d).val = d.val := by
  cases d with
  | leaf v => rfl
  | row a xs => simp only [put]; split <;> rfl
  | tab a ks xs => simp only [put]; split <;> rfl
theorem putL_val (b : Addr) (i : Nat) (k : Str) (p : Dc) : ∀ xs, (putL b i k p xs).map val = xs.map val
  | [] => rfl
  | x :: r => by simp only [putL, List.map_cons, put_val, putL_val b i k p r]
theorem addrsL_append : ∀ xs ys : List Dc, addrsL (xs ++ ys) = addrsL xs ++ addrsL ys
  | [], _ => rfl
  | x :: r, ys => by simp only [List.cons_append, addrsL, addrsL_append r ys, List.append_assoc]
theorem sizeL_append : ∀ xs ys : List Dc, sizeL (xs ++ ys) = sizeL xs + sizeL ys
  | [], ys => by simp [sizeL]
  | x :: r, ys => by simp only [List.cons_append, sizeL, sizeL_append r ys]; omega
theorem AtL_append {H : Hp} : ∀ xs ys : List Dc, AtL H (xs ++ ys) ↔ AtL H xs ∧ AtL H ys
  | [], ys => by simp [AtL]
  | x :: r, ys => by simp only [List.cons_append, AtL, AtL_append r ys, and_assoc]
theorem AtL_mem {H : Hp} : ∀ {xs : List Dc}, AtL H xs → ∀ x ∈ xs, At H x
  | [], _, x, hx => nomatch hx
  | y :: r, h, x, hx => by
    simp only [AtL] at h
    rcases List.mem_cons.mp hx with rfl | hx
    · exact h.1
    · exact AtL_mem h.2 x hx
theorem sizeL_mem : ∀ {xs : List Dc} {x : Dc}, x ∈ xs → x.size ≤ sizeL xs
  | [], _, h => nomatch h
  | y :: r, x, h => by
    simp only [sizeL]
    rcases List.mem_cons.mp h with rfl | h
    · omega
    · have := sizeL_mem h
      omega
theorem addrsL_mem : ∀ {xs : List Dc} {x : Dc} {a : Addr}, x ∈ xs → a ∈ x.addrs → a ∈ addrsL xs
  | [], _, _, h, _ => nomatch h
  | y :: r, x, a, h, ha => by
    simp only [addrsL]
    rcases List.mem_cons.mp h with rfl | h
    · exact List.mem_append_left _ ha
    · exact List.mem_append_right _ (addrsL_mem h ha)
mutual
theorem at_frame {H H' : Hp} : ∀ d : Dc, (∀ a ∈ d.addrs, ∀ o, H a = some o → H' a = some o) → d.At H → d.At H'
  | leaf v, _, h => h
  | row a xs, f, h => by
    simp only [At] at h ⊢
    exact ⟨h.1.up (f a (by simp [addrs])), atL_frame xs (fun c hc => f c (by simp only [addrs]; exact List.mem_cons_of_mem _ hc)) h.2⟩
  | tab a ks xs, f, h => by
    simp only [At] at h ⊢
    exact ⟨h.1.up (f a (by simp [addrs])), h.2.1, h.2.2.1, atL_frame xs (fun c hc => f c (by simp only [addrs]; exact List.mem_cons_of_mem _ hc)) h.2.2.2⟩
theorem atL_frame {H H' : Hp} : ∀ xs : List Dc, (∀ a ∈ addrsL xs, ∀ o, H a = some o → H' a = some o) → AtL H xs → AtL H' xs
  | [], _, h => h
  | x :: r, f, h => by
    simp only [AtL] at h ⊢
    exact ⟨at_frame x (fun c hc => f c (by simp only [addrsL]; exact List.mem_append_left _ hc)) h.1, atL_frame r (fun c hc => f c (by simp only [addrsL]; exact List.mem_append_right _ hc)) h.2⟩
end
mutual
theorem at_read {H H' : Hp} : ∀ d : Dc, (∀ a ∈ d.addrs, ∀ u, Rd H a u → Rd H' a u) → d.At H → d.At H'
  | leaf v, _, h => h
  | row a xs, f, h => by
    simp only [At] at h ⊢
    exact ⟨f a (by simp [addrs]) _ h.1, atL_read xs (fun c hc => f c (by simp only [addrs]; exact List.mem_cons_of_mem _ hc)) h.2⟩
  | tab a ks xs, f, h => by
    simp only [At] at h ⊢
    exact ⟨f a (by simp [addrs]) _ h.1, h.2.1, h.2.2.1, atL_read xs (fun c hc => f c (by simp only [addrs]; exact List.mem_cons_of_mem _ hc)) h.2.2.2⟩
theorem atL_read {H H' : Hp} : ∀ xs : List Dc, (∀ a ∈ addrsL xs, ∀ u, Rd H a u → Rd H' a u) → AtL H xs → AtL H' xs
  | [], _, h => h
  | x :: r, f, h => by
    simp only [AtL] at h ⊢
    exact ⟨at_read x (fun c hc => f c (by simp only [addrsL]; exact List.mem_append_left _ hc)) h.1, atL_read r (fun c hc => f c (by simp only [addrsL]; exact List.mem_append_right _ hc)) h.2⟩
end
theorem at_same {H H' : Hp} {d : Dc} (s : Same H H') (h : d.At H) : d.At H' := at_frame d (fun a _ o e => s a o e) h
mutual
theorem put_not {b : Addr} {i : Nat} {k : Str} {p : Dc} : ∀ d : Dc, b ∉ d.addrs → put b i k p d = d
  | leaf v, _ => rfl
  | row a xs, h => by
    simp only [addrs, List.mem_cons, not_or] at h
    simp only [put]
    rw [if_neg (fun e => h.1 e.symm), putL_not xs h.2]
  | tab a ks xs, h => by
    simp only [addrs, List.mem_cons, not_or] at h
    simp only [put]
    rw [if_neg (fun e => h.1 e.symm), putL_not xs h.2]
theorem putL_not {b : Addr} {i : Nat} {k : Str} {p : Dc} : ∀ xs : List Dc, b ∉ addrsL xs → putL b i k p xs = xs
  | [], _ => rfl
  | x :: r, h => by
    simp only [addrsL, List.mem_append, not_or] at h
    simp only [putL]
    rw [put_not x h.1, putL_not r h.2]
end
theorem take_drop_size (xs : List Dc) (i : Nat) : sizeL (xs.take i) + sizeL (xs.drop i) = sizeL xs := by
  rw [← sizeL_append, List.take_append_drop]
mutual
theorem put_size {b : Addr} {i : Nat} {k : Str} {p : Dc} : ∀ d : Dc, b ∈ d.addrs → d.addrs.Nodup → (put b i k p d).size = d.size + p.size
  | leaf v, h, _ => by simp [addrs] at h
  | row a xs, h, n => by
    simp only [addrs, List.mem_cons] at h
    simp only [addrs, List.nodup_cons] at n
    simp only [put]
    by_cases e : a = b
    · rw [if_pos e]
      simp only [size, sizeL_append, sizeL]
      have := take_drop_size xs i
      omega
    · rw [if_neg e]
      simp only [size]
      rw [putL_size xs (h.resolve_left fun z => e z.symm) n.2]
      omega
  | tab a ks xs, h, n => by
    simp only [addrs, List.mem_cons] at h
    simp only [addrs, List.nodup_cons] at n
    simp only [put]
    by_cases e : a = b
    · rw [if_pos e]
      simp only [size, sizeL_append, sizeL]
      omega
    · rw [if_neg e]
      simp only [size]
      rw [putL_size xs (h.resolve_left fun z => e z.symm) n.2]
      omega
theorem putL_size {b : Addr} {i : Nat} {k : Str} {p : Dc} : ∀ xs : List Dc, b ∈ addrsL xs → (addrsL xs).Nodup → sizeL (putL b i k p xs) = sizeL xs + p.size
  | [], h, _ => by simp [addrsL] at h
  | x :: r, h, n => by
    simp only [addrsL] at h n
    obtain ⟨n1, n2, n3⟩ := List.nodup_append.mp n
    simp only [putL, sizeL]
    by_cases hx : b ∈ x.addrs
    · have hr : b ∉ addrsL r := fun z => n3 b hx b z rfl
      rw [put_size x hx n1, putL_not r hr]
      omega
    · rw [put_not x hx, putL_size r ((List.mem_append.mp h).resolve_left hx) n2]
      omega
end
mutual
theorem put_addrs {b : Addr} {i : Nat} {k : Str} {p : Dc} : ∀ (d : Dc) (c : Addr), (c ∈ (put b i k p d).addrs → c ∈ d.addrs ∨ (b ∈ d.addrs ∧ c ∈ p.addrs)) ∧ (c ∈ d.addrs → c ∈ (put b i k p d).addrs) ∧ (b ∈ d.addrs → c ∈ p.addrs → c ∈ (put b i k p d).addrs)
  | leaf v, c => by simp [put, addrs]
  | row a xs, c => by
    have ih := putL_addrs (b := b) (i := i) (k := k) (p := p) xs c
    simp only [put]
    by_cases e : a = b
    · rw [if_pos e]
      have et : addrsL xs = addrsL (xs.take i) ++ addrsL (xs.drop i) := by rw [← addrsL_append, List.take_append_drop]
      simp only [addrs, addrsL_append, addrsL, List.mem_cons, List.mem_append]
      rw [et]
      simp only [List.mem_append]
      subst e
      refine ⟨?_, ?_, ?_⟩
      · rintro (h | h | h | h)
        · exact .inl (.inl h)
        · exact .inl (.inr (.inl h))
        · exact .inr ⟨.inl rfl, h⟩
        · exact .inl (.inr (.inr h))
      · rintro (h | h | h)
        · exact .inl h
        · exact .inr (.inl h)
        · exact .inr (.inr (.inr h))
      · intro _ h
        exact .inr (.inr (.inl h))
    · rw [if_neg e]
      simp only [addrs, List.mem_cons]
      refine ⟨?_, ?_, ?_⟩
      · rintro (h | h)
        · exact .inl (.inl h)
        · exact (ih.1 h).imp .inr fun z => ⟨.inr z.1, z.2⟩
      · rintro (h | h)
        · exact .inl h
        · exact .inr (ih.2.1 h)
      · rintro (h | h) hp
        · exact absurd h.symm e
        · exact .inr (ih.2.2 h hp)
  | tab a ks xs, c => by
    have ih := putL_addrs (b := b) (i := i) (k := k) (p := p) xs c
    simp only [put]
    by_cases e : a = b
    · rw [if_pos e]
      simp only [addrs, addrsL_append, addrsL, List.mem_cons, List.mem_append, List.append_nil]
      subst e
      refine ⟨?_, ?_, ?_⟩
      · rintro (h | h | h)
        · exact .inl (.inl h)
        · exact .inl (.inr h)
        · exact .inr ⟨.inl rfl, h⟩
      · rintro (h | h)
        · exact .inl h
        · exact .inr (.inl h)
      · intro _ h
        exact .inr (.inr h)
    · rw [if_neg e]
      simp only [addrs, List.mem_cons]
      refine ⟨?_, ?_, ?_⟩
      · rintro (h | h)
        · exact .inl (.inl h)
        · exact (ih.1 h).imp .inr fun z => ⟨.inr z.1, z.2⟩
      · rintro (h | h)
        · exact .inl h
        · exact .inr (ih.2.1 h)
      · rintro (h | h) hp
        · exact absurd h.symm e
        · exact .inr (ih.2.2 h hp)
theorem putL_addrs {b : Addr} {i : Nat} {k : Str} {p : Dc} : ∀ (xs : List Dc) (c : Addr), (c ∈ addrsL (putL b i k p xs) → c ∈ addrsL xs ∨ (b ∈ addrsL xs ∧ c ∈ p.addrs)) ∧ (c ∈ addrsL xs → c ∈ addrsL (putL b i k p xs)) ∧ (b ∈ addrsL xs → c ∈ p.addrs → c ∈ addrsL (putL b i k p xs))
  | [], c => by simp [putL, addrsL]
  | x :: r, c => by
    have h1 := put_addrs (b := b) (i := i) (k := k) (p := p) x c
    have h2 := putL_addrs (b := b) (i := i) (k := k) (p := p) r c
    simp only [putL, addrsL, List.mem_append]
    refine ⟨?_, ?_, ?_⟩
    · rintro (h | h)
      · exact (h1.1 h).imp .inl fun z => ⟨.inl z.1, z.2⟩
      · exact (h2.1 h).imp .inr fun z => ⟨.inr z.1, z.2⟩
    · rintro (h | h)
      · exact .inl (h1.2.1 h)
      · exact .inr (h2.2.1 h)
    · rintro (h | h) hp
      · exact .inl (h1.2.2 h hp)
      · exact .inr (h2.2.2 h hp)
end
mutual
theorem put_nodup {b : Addr} {i : Nat} {k : Str} {p : Dc} (np : p.addrs.Nodup) : ∀ d : Dc, d.addrs.Nodup → (∀ c ∈ d.addrs, c ∉ p.addrs) → (put b i k p d).addrs.Nodup
  | leaf v, n, _ => n
  | row a xs, n, dj => by
    simp only [addrs, List.nodup_cons] at n
    simp only [put]
    by_cases e : a = b
    · rw [if_pos e]
      simp only [addrs, addrsL_append, addrsL]
      have et : addrsL xs = addrsL (xs.take i) ++ addrsL (xs.drop i) := by rw [← addrsL_append, List.take_append_drop]
      rw [et] at n
      have dj' : ∀ c, c ∈ addrsL (xs.take i) ++ addrsL (xs.drop i) → c ∉ p.addrs := fun c hc => dj c (by simp only [addrs]; rw [et]; exact List.mem_cons_of_mem _ hc)
      obtain ⟨m1, m2, m3⟩ := List.nodup_append.mp n.2
      refine List.nodup_cons.mpr ⟨fun h => ?_, List.nodup_append.mpr ⟨m1, List.nodup_append.mpr ⟨np, m2, fun c hc e' he hce => ?_⟩, fun c hc e' he hce => ?_⟩⟩
      · simp only [List.mem_append] at h
        rcases h with h | h | h
        · exact n.1 (List.mem_append_left _ h)
        · exact dj a (by simp [addrs]) h
        · exact n.1 (List.mem_append_right _ h)
      · subst hce
        exact dj' c (List.mem_append_right _ he) hc
      · subst hce
        rcases List.mem_append.mp he with he | he
        · exact dj' c (List.mem_append_left _ hc) he
        · exact m3 c hc c he rfl
    · rw [if_neg e]
      simp only [addrs]
      refine List.nodup_cons.mpr ⟨fun h => ?_, putL_nodup np xs n.2 fun c hc => dj c (by simp only [addrs]; exact List.mem_cons_of_mem _ hc)⟩
      rcases (putL_addrs xs a).1 h with h | h
      · exact n.1 h
      · exact dj a (by simp [addrs]) h.2
  | tab a ks xs, n, dj => by
    simp only [addrs, List.nodup_cons] at n
    simp only [put]
    by_cases e : a = b
    · rw [if_pos e]
      simp only [addrs, addrsL_append, addrsL, List.append_nil]
      refine List.nodup_cons.mpr ⟨fun h => ?_, List.nodup_append.mpr ⟨n.2, np, fun c hc e' he hce => ?_⟩⟩
      · rcases List.mem_append.mp h with h | h
        · exact n.1 h
        · exact dj a (by simp [addrs]) h
      · subst hce
        exact dj c (by simp only [addrs]; exact List.mem_cons_of_mem _ hc) he
    · rw [if_neg e]
      simp only [addrs]
      refine List.nodup_cons.mpr ⟨fun h => ?_, putL_nodup np xs n.2 fun c hc => dj c (by simp only [addrs]; exact List.mem_cons_of_mem _ hc)⟩
      rcases (putL_addrs xs a).1 h with h | h
      · exact n.1 h
      · exact dj a (by simp [addrs]) h.2
theorem putL_nodup {b : Addr} {i : Nat} {k : Str} {p : Dc} (np : p.addrs.Nodup) : ∀ xs : List Dc, (addrsL xs).Nodup → (∀ c ∈ addrsL xs, c ∉ p.addrs) → (addrsL (putL b i k p xs)).Nodup
  | [], n, _ => n
  | x :: r, n, dj => by
    simp only [addrsL] at n dj
    obtain ⟨n1, n2, n3⟩ := List.nodup_append.mp n
    simp only [putL, addrsL]
    have i1 := put_nodup (b := b) (i := i) (k := k) np x n1 fun c hc => dj c (List.mem_append_left _ hc)
    have i2 := putL_nodup (b := b) (i := i) (k := k) np r n2 fun c hc => dj c (List.mem_append_right _ hc)
    refine List.nodup_append.mpr ⟨i1, i2, fun c hc e he hce => ?_⟩
    subst hce
    rcases (put_addrs x c).1 hc with h | ⟨hb, h⟩
    · rcases (putL_addrs r c).1 he with h' | ⟨_, h'⟩
      · exact n3 c h c h' rfl
      · exact dj c (List.mem_append_left _ h) h'
    · rcases (putL_addrs r c).1 he with h' | ⟨hb', h'⟩
      · exact dj c (List.mem_append_right _ h') h
      · exact n3 b hb b hb' rfl
end
theorem kvs_snoc {ks : List Str} {xs : List Dc} (k : Str) (p : Dc) (h : ks.length = xs.length) : kvs (ks ++ [k]) (xs ++ [p]) = kvs ks xs ++ [(Sum.inr k, p.val)] := by
  unfold kvs
  rw [List.map_append, List.zip_append (by rw [List.length_map]; exact h), List.map_append]
  rfl
theorem kvs_keys {ks : List Str} {xs : List Dc} (h : ks.length = xs.length) : (kvs ks xs).map (·.1) = ks.map Sum.inr := by
  unfold kvs
  rw [List.map_map]
  have : (fun p : Str × V => (Sum.inr p.1 : Key)) = (Sum.inr : Str → Key) ∘ Prod.fst := rfl
  show List.map ((fun p : Key × V => p.1) ∘ fun p : Str × V => (Sum.inr p.1, p.2)) (ks.zip (xs.map val)) = _
  have e : ((fun p : Key × V => p.1) ∘ fun p : Str × V => ((Sum.inr p.1 : Key), p.2)) = (Sum.inr : Str → Key) ∘ Prod.fst := rfl
  rw [e, ← List.map_map, List.map_fst_zip (by rw [List.length_map]; omega)]
mutual
theorem put_at {H H' : Hp} {b : Addr} {i : Nat} {k : Str} {p : Dc} (hp : p.At H') (hrow : ∀ vs, Rd H b (.lst vs) → H' b = some (.lst (vs.take i ++ p.val :: vs.drop i)))
    (htab : ∀ kv, Rd H b (.dK kv) → (Sum.inr k : Key) ∉ kv.map (·.1) ∧ H' b = some (.dK (kv ++ [(Sum.inr k, p.val)]))) :
    ∀ d : Dc, (∀ a ∈ d.addrs, a ≠ b → ∀ o, H a = some o → H' a = some o) → d.addrs.Nodup → d.At H → (put b i k p d).At H'
  | leaf v, _, _, h => h
  | row a xs, f, n, h => by
    simp only [addrs, List.nodup_cons] at n
    simp only [At] at h
    simp only [put]
    by_cases e : a = b
    · rw [if_pos e]
      subst e
      have keep : AtL H' xs := atL_frame xs (fun c hc => f c (by simp only [addrs]; exact List.mem_cons_of_mem _ hc) fun z => n.1 (z ▸ hc)) h.2
      simp only [At]
      have ks : AtL H' (xs.take i) ∧ AtL H' (xs.drop i) := (AtL_append _ _).mp (by rw [List.take_append_drop]; exact keep)
      refine ⟨?_, (AtL_append _ _).mpr ⟨ks.1, by simp only [AtL]; exact ⟨hp, ks.2⟩⟩⟩
      refine .inl ?_
      rw [hrow _ h.1, List.map_append, List.map_cons, List.map_take, List.map_drop]
    · rw [if_neg e]
      simp only [At]
      refine ⟨?_, putL_at hp hrow htab xs (fun c hc => f c (by simp only [addrs]; exact List.mem_cons_of_mem _ hc)) n.2 h.2⟩
      rw [putL_val]
      exact h.1.up (f a (by simp [addrs]) e)
  | tab a ks xs, f, n, h => by
    simp only [addrs, List.nodup_cons] at n
    simp only [At] at h
    simp only [put]
    by_cases e : a = b
    · rw [if_pos e]
      subst e
      have keep : AtL H' xs := atL_frame xs (fun c hc => f c (by simp only [addrs]; exact List.mem_cons_of_mem _ hc) fun z => n.1 (z ▸ hc)) h.2.2.2
      simp only [At]
      obtain ⟨nk, d⟩ := htab _ h.1
      rw [kvs_keys h.2.1] at nk
      refine ⟨by rw [kvs_snoc k p h.2.1]; exact .inl d, by rw [List.length_append, List.length_append, h.2.1]; rfl, ?_, (AtL_append _ _).mpr ⟨keep, by simp only [AtL]; exact ⟨hp, trivial⟩⟩⟩
      refine List.nodup_append.mpr ⟨h.2.2.1, by simp, fun c hc e he hce => ?_⟩
      rw [List.mem_singleton.mp he] at hce
      subst hce
      exact nk (List.mem_map.mpr ⟨c, hc, rfl⟩)
    · rw [if_neg e]
      simp only [At]
      refine ⟨?_, by rw [putL_length]; exact h.2.1, h.2.2.1, putL_at hp hrow htab xs (fun c hc => f c (by simp only [addrs]; exact List.mem_cons_of_mem _ hc)) n.2 h.2.2.2⟩
      have ev : kvs ks (putL b i k p xs) = kvs ks xs := by unfold kvs; rw [putL_val]
      rw [ev]
      exact h.1.up (f a (by simp [addrs]) e)
theorem putL_at {H H' : Hp} {b : Addr} {i : Nat} {k : Str} {p : Dc} (hp : p.At H') (hrow : ∀ vs, Rd H b (.lst vs) → H' b = some (.lst (vs.take i ++ p.val :: vs.drop i)))
    (htab : ∀ kv, Rd H b (.dK kv) → (Sum.inr k : Key) ∉ kv.map (·.1) ∧ H' b = some (.dK (kv ++ [(Sum.inr k, p.val)]))) :
    ∀ xs : List Dc, (∀ a ∈ addrsL xs, a ≠ b → ∀ o, H a = some o → H' a = some o) → (addrsL xs).Nodup → AtL H xs → AtL H' (putL b i k p xs)
  | [], _, _, h => h
  | x :: r, f, n, h => by
    simp only [addrsL] at n f
    obtain ⟨n1, n2, n3⟩ := List.nodup_append.mp n
    simp only [putL, AtL] at h ⊢
    exact ⟨put_at hp hrow htab x (fun c hc => f c (List.mem_append_left _ hc)) n1 h.1, putL_at hp hrow htab r (fun c hc => f c (List.mem_append_right _ hc)) n2 h.2⟩
end
mutual
theorem holder_at {H : Hp} {b : Addr} : ∀ d : Dc, d.At H → b ∈ d.addrs → (∃ vs, Rd H b (.lst vs) ∧ vs.length < d.size) ∨ ∃ ks : List Str, ∃ kv, Rd H b (.dK kv) ∧ kv.map (·.1) = ks.map Sum.inr ∧ kv.length < d.size
  | leaf v, _, h => by simp [addrs] at h
  | row a xs, h, hb => by
    simp only [At] at h
    simp only [addrs, List.mem_cons] at hb
    simp only [size]
    rcases hb with rfl | hb
    · refine .inl ⟨_, h.1, ?_⟩
      rw [List.length_map]
      have := lenL xs
      omega
    · rcases holderL_at xs h.2 hb with ⟨vs, e, l⟩ | ⟨ks, kv, e, z, l⟩
      · exact .inl ⟨vs, e, by omega⟩
      · exact .inr ⟨ks, kv, e, z, by omega⟩
  | tab a ks xs, h, hb => by
    simp only [At] at h
    simp only [addrs, List.mem_cons] at hb
    simp only [size]
    rcases hb with rfl | hb
    · refine .inr ⟨ks, _, h.1, kvs_keys h.2.1, ?_⟩
      have e : (kvs ks xs).length = ks.length := by
        have := congrArg List.length (kvs_keys (ks := ks) (xs := xs) h.2.1)
        simpa using this
      rw [e, h.2.1]
      have := lenL xs
      omega
    · rcases holderL_at xs h.2.2.2 hb with ⟨vs, e, l⟩ | ⟨ks, kv, e, z, l⟩
      · exact .inl ⟨vs, e, by omega⟩
      · exact .inr ⟨ks, kv, e, z, by omega⟩
theorem holderL_at {H : Hp} {b : Addr} : ∀ xs : List Dc, AtL H xs → b ∈ addrsL xs → (∃ vs, Rd H b (.lst vs) ∧ vs.length < sizeL xs) ∨ ∃ ks : List Str, ∃ kv, Rd H b (.dK kv) ∧ kv.map (·.1) = ks.map Sum.inr ∧ kv.length < sizeL xs
  | [], _, h => by simp [addrsL] at h
  | x :: r, h, hb => by
    simp only [AtL] at h
    simp only [addrsL, List.mem_append] at hb
    simp only [sizeL]
    rcases hb with hb | hb
    · rcases holder_at x h.1 hb with ⟨vs, e, l⟩ | ⟨ks, kv, e, z, l⟩
      · exact .inl ⟨vs, e, by omega⟩
      · exact .inr ⟨ks, kv, e, z, by omega⟩
    · rcases holderL_at r h.2 hb with ⟨vs, e, l⟩ | ⟨ks, kv, e, z, l⟩
      · exact .inl ⟨vs, e, by omega⟩
      · exact .inr ⟨ks, kv, e, z, by omega⟩
theorem lenL : ∀ xs : List Dc, xs.length ≤ sizeL xs
  | [] => Nat.le_refl _
  | x :: r => by
    have := lenL r
    have := size_pos x
    simp only [sizeL, List.length_cons]
    omega
end
end Dc
end L2

set_option Elab.async false
set_option linter.all false
set_option maxRecDepth 100000
set_option maxHeartbeats 4000000
namespace L2
open PySem PySem.Spec PyProof.Rows
section
variable {X : Cx}
inductive r_op_eqEI (K : PySem.W.Frag) (x : V) (y : V) (H : Hp) (Q : VK) : Prop
  | mk (a : Addr) (b : Addr) (xs : List V) (h0_ : x = .ref a) (h1_ : y = .ref b) (h2_ : SqL K H a xs) (h3_ : SqL K H b []) (h4_ : Q (.bl xs.isEmpty) H) : r_op_eqEI K x y H Q
def r_op_eqE (K : PySem.W.Frag) : V → V → Hp → VK → Prop := fun x y H Q => r_op_eqEI K x y H Q
theorem op_eqE (hu : X.A.units < cLine) : OpR X (compareOp .Eq) (r_op_eqE X.K) := by
  intro pins s σ H x y v u Q I rx ry h
  obtain ⟨a, b, xs, rfl, rfl, ha, hb, q⟩ := h
  cases rx
  cases ry
  obtain ⟨its, r1, p1, _⟩ := I.list ha
  obtain ⟨its2, r2, p2, _⟩ := I.list hb
  cases r2
  have l1 := r1.length
  cases xs with
  | nil =>
    cases r1
    exact SeqAt.eq_listAt (e := fun _ => true) p1.isList p2.isList rfl hu (fun j h1 _ => absurd h1 (by simp)) ⟨.bl true, H, I, rfl, q⟩
  | cons z zs =>
    refine SeqAt.eq_list_lengthsAt p1.isList p2.isList ?_ hu ⟨.bl false, H, I, rfl, q⟩
    rw [List.size_toArray, ← l1]
    simp
inductive r_op_neEI (K : PySem.W.Frag) (x : V) (y : V) (H : Hp) (Q : VK) : Prop
  | mk (a : Addr) (b : Addr) (xs : List V) (h0_ : x = .ref a) (h1_ : y = .ref b) (h2_ : SqL K H a xs) (h3_ : SqL K H b []) (h4_ : Q (.bl (!xs.isEmpty)) H) : r_op_neEI K x y H Q
def r_op_neE (K : PySem.W.Frag) : V → V → Hp → VK → Prop := fun x y H Q => r_op_neEI K x y H Q
theorem op_neE (hu : X.A.units < cLine) : OpR X (compareOp .NotEq) (r_op_neE X.K) := by
  intro pins s σ H x y v u Q I rx ry h
  obtain ⟨a, b, xs, rfl, rfl, ha, hb, q⟩ := h
  cases rx
  cases ry
  obtain ⟨its, r1, p1, _⟩ := I.list ha
  obtain ⟨its2, r2, p2, _⟩ := I.list hb
  cases r2
  have l1 := r1.length
  cases xs with
  | nil =>
    cases r1
    exact SeqAt.RcNeAt.lists (e := fun _ => true) p1.isList p2.isList rfl hu (fun j h1 _ => absurd h1 (by simp)) _ _ _ _ ⟨.bl false, H, I, rfl, q⟩
  | cons z zs =>
    refine SeqAt.RcNeAt.lists_lengths p1.isList p2.isList ?_ hu _ _ _ _ ⟨.bl true, H, I, rfl, q⟩
    rw [List.size_toArray, ← l1]
    simp
def eqTs (xs ys : List V) : Bool := ((List.range (min xs.length ys.length)).all fun j => eqV (xs.getD j .non) (ys.getD j .non)) && xs.length == ys.length
inductive r_op_eqTI (K : PySem.W.Frag) (x : V) (y : V) (H : Hp) (Q : VK) : Prop
  | mk (a : Addr) (b : Addr) (xs : List V) (ys : List V) (h0_ : x = .ref a) (h1_ : y = .ref b) (h2_ : SqT K H a xs) (h3_ : SqT K H b ys) (h4_ : (∀ z ∈ xs, flatV z = true)) (h5_ : (∀ z ∈ ys, flatV z = true)) (h6_ : Q (.bl (eqTs xs ys)) H) : r_op_eqTI K x y H Q
def r_op_eqT (K : PySem.W.Frag) : V → V → Hp → VK → Prop := fun x y H Q => r_op_eqTI K x y H Q
theorem op_eqT (hu : X.A.units < cLine) : OpR X (compareOp .Eq) (r_op_eqT X.K) := by
  intro pins s σ H x y v u Q I rx ry h
  obtain ⟨a, b, xs, ys, rfl, rfl, ha, hb, fx, fy, q⟩ := h
  cases rx
  cases ry
  obtain ⟨its, r1, p1, _⟩ := I.tuple ha
  obtain ⟨its2, r2, p2, _⟩ := I.tuple hb
  have e1 : its.toArray.size = xs.length := by rw [List.size_toArray]; exact r1.length.symm
  have e2 : its2.toArray.size = ys.length := by rw [List.size_toArray]; exact r2.length.symm
  refine SeqAt.eq_tupleAt (e := fun j => eqV (xs.getD j .non) (ys.getD j .non)) p1 p2 hu (fun j h1 h2 => ?_) ?_
  · have h1' : j < xs.length := by rw [← e1]; exact h1
    have h2' : j < ys.length := by rw [← e2]; exact h2
    obtain ⟨u1, g1, s1⟩ := r1.get (List.getElem?_eq_getElem h1')
    obtain ⟨u2, g2, s2⟩ := r2.get (List.getElem?_eq_getElem h2')
    have w1 : its.toArray[j] = u1 := by
      have := (List.getElem?_eq_some_iff.mp g1).2
      simpa using this
    have w2 : its2.toArray[j] = u2 := by
      have := (List.getElem?_eq_some_iff.mp g2).2
      simpa using this
    rw [w1, w2]
    have d1 : xs.getD j .non = xs[j] := by rw [List.getD_eq_getElem?_getD, List.getElem?_eq_getElem h1']; rfl
    have d2 : ys.getD j .non = ys[j] := by rw [List.getD_eq_getElem?_getD, List.getElem?_eq_getElem h2']; rfl
    show SeqAt.EqAt _ _ u1 u2 (eqV (xs.getD j .non) (ys.getD j .non))
    rw [d1, d2]
    exact eqAt_V s1 s2 (fx _ (List.getElem_mem h1')) (fy _ (List.getElem_mem h2'))
  · rw [e1, e2]
    exact ⟨.bl (eqTs xs ys), H, I, rfl, q⟩
theorem isinst_tup {pins : List (Addr × Obj)} {σ : St} {H : Hp} {s : Shared} {A : Around} {E : Value → Shared → Prop} {Q : Value → Shared → Prop} {x : V} {u : Value} {T : String} {tp : Addr} {dd : Option Addr} {its : List Value} {n : Nat} {sl : Array (Option Value)} {b : Bool}
    (I : Inv X pins σ H s) (rx : RelV x u) (ty : TyN H x T) (htp : s.heap.get? tp = some ⟨.type "tuple", dd, .seq its.toArray n, sl⟩) (e : PySem.W.kitAny X.K (.type T) its = some b) (h : ∀ tk, Q (.bool b) { s with toks := tk }) :
    wpAny (model X.prog X.w) A (call (.builtin "isinstance") [u, .ref tp]) Q E s := by
  cases ty with
  | non => cases (show u = Value.none from rx); exact PySem.W.kia_tup PySem.W.kitx_none I.kIn True.intro htp e (fun z => nomatch z) h
  | bl y => cases (show u = Value.bool y from rx); exact PySem.W.kia_tup PySem.W.kitx_bool I.kIn True.intro htp e (fun z => nomatch z) h
  | int i => obtain ⟨t, q⟩ := (show ∃ t, u = Value.int i t from rx); cases q; exact PySem.W.kia_tup PySem.W.kitx_int I.kIn True.intro htp e (fun z => nomatch z) h
  | str y => obtain ⟨t, q⟩ := (show ∃ t, u = Value.str y t from rx); cases q; exact PySem.W.kia_tup PySem.W.kitx_str I.kIn True.intro htp e (fun z => nomatch z) h
  | @lst a xs ea =>
    cases (show u = Value.ref a from rx)
    obtain ⟨_, _, n, _, h1⟩ := (show ObjOk X.prog X.w H s.heap a (.lst xs) from ea.ok I.hok)
    exact PySem.W.kia_tup PySem.W.kitx_list I.kIn ⟨_, h1, rfl⟩ htp e (fun z => nomatch z) h
  | @tup a xs ea =>
    cases (show u = Value.ref a from rx)
    obtain ⟨_, _, _, p⟩ := (show ObjOk X.prog X.w H s.heap a (.tup xs) from I.hok a _ ea)
    obtain ⟨o, h1, h2, _⟩ := p
    exact PySem.W.kia_tup PySem.W.kitx_tuple I.kIn ⟨o, h1, h2⟩ htp e (fun z => nomatch z) h
  | @dK a kvs ea =>
    cases (show u = Value.ref a from rx)
    obtain ⟨_, _, vs, _, p⟩ := (show ObjOk X.prog X.w H s.heap a (.dK kvs) from ea.ok I.hok)
    obtain ⟨o, es, ep, h1, h2, _⟩ := p
    exact PySem.W.kia_tup PySem.W.kitx_dict I.kIn ⟨o, h1, h2.1⟩ htp e (fun z => nomatch z) h
def isiLD (T : String) : Bool := T == "list" || T == "dict"
theorem kit_ld {K : PySem.W.Frag} {H : Hp} {v : V} {T : String} (h : TyN H v T) : PySem.W.kitAny K (.type T) [.type "list", .type "dict"] = some (isiLD T) := by
  cases h <;> kernel_rfl
inductive r_call_isiLDI (xs : List V) (H : Hp) (Q : VK) : Prop
  | mk (x : V) (p : Addr) (T : String) (h0_ : xs = [x, .ref p]) (h1_ : H p = some (.tup [.ty "list", .ty "dict"])) (h2_ : TyN H x T) (h3_ : Q (.bl (isiLD T)) H) : r_call_isiLDI xs H Q
def r_call_isiLD : List V → Hp → VK → Prop := fun xs H Q => r_call_isiLDI xs H Q
theorem call_isiLD : CallR X (.builtin "isinstance") r_call_isiLD := by
  intro pins s σ H xs us Q I r h
  obtain ⟨x, p, T, rfl, hp, ty, q⟩ := h
  obtain ⟨u, w', rfl, ru, rw'⟩ := vals2 r
  cases rw'
  obtain ⟨its, rv, tp, _⟩ := I.tuple (SqT.of hp)
  obtain ⟨⟨cls, dd, data, sl⟩, ho, hc, n, hd⟩ := id tp
  simp only at hc hd
  subst hc hd
  cases rv with
  | cons r1 rr =>
    cases rr with
    | cons r2 rr =>
      cases rr
      cases r1
      cases r2
      exact isinst_tup I ru ty ho (kit_ld ty) fun tk => ⟨.bl _, H, I.tok tk, rfl, q⟩

theorem keys_strs {w : World} {P : Program} {vs : List (Key × Value)} {ss : List Str} (hk : vs.map (·.1) = ss.map Sum.inr) {ws : List Value} (hl : ws.length = vs.length)
    (hv : ∀ (j : Nat) (v : Value), ws[j]? = some v → ∃ k x, vs[j]? = some (k, x) ∧ (mixKind P w).is k v = true) : StrsAre ws ss := by
  induction ss generalizing vs ws with
  | nil =>
    have : vs = [] := by cases vs with | nil => rfl | cons a r => simp at hk
    subst this
    have : ws = [] := List.eq_nil_of_length_eq_zero hl
    subst this
    exact .nil
  | cons x r ih =>
    cases vs with
    | nil => simp at hk
    | cons a vs =>
      simp only [List.map_cons, List.cons.injEq] at hk
      cases ws with
      | nil => simp at hl
      | cons u ws =>
        obtain ⟨k, y, e, hi⟩ := hv 0 u rfl
        have e : a = (k, y) := by simpa using e
        subst e
        have hk1 : k = Sum.inr x := hk.1
        subst hk1
        have hi : keyIs (Sum.inr x) u = true := hi
        rcases keyIs_shape hi with ⟨i, t, e1, _⟩ | ⟨z, t, e1, e2⟩
        · cases e1
        · cases e1
          subst e2
          exact .cons _ t (ih hk.2 (by simpa using hl) fun j v hj => hv (j + 1) v (by simpa using hj))
theorem vals_strs {us : List Value} {ys : List Str} (h : StrsAre us ys) : Vals (ys.map V.str) us := by
  induction h with
  | nil => exact .nil
  | cons n t _ ih => exact .cons ⟨t, rfl⟩ ih
inductive r_call_sortedDI (xs : List V) (H : Hp) (Q : VK) : Prop
  | mk (d : Addr) (kv : List (Key × V)) (ss : List Str) (h0_ : xs = [.ref d]) (h1_ : Rd H d (.dK kv)) (h2_ : kv.map (·.1) = ss.map Sum.inr) (h3_ : kv.length < 64) (h4_ : ∀ (p : Addr) (ss' : List Str) (H' : Hp), H p = none → Same H H' → H' p = some (.lst (ss'.map V.str)) → ss'.Perm ss → sortedS ss' = true → Q (.ref p) H') : r_call_sortedDI xs H Q
def r_call_sortedD : List V → Hp → VK → Prop := fun xs H Q => r_call_sortedDI xs H Q
theorem call_sortedD (hc : X.calm = true) : CallR X (.builtin "sorted") r_call_sortedD := by
  intro pins s σ H xs us Q I r h
  obtain ⟨d, kv, ss, rfl, hd, hk, h64, q⟩ := h
  obtain ⟨u, rfl, ru⟩ := vals1 r
  cases ru
  obtain ⟨z, hm, vs, rel, dd⟩ := dk_rd I.hok hd
  have hin : X.A.in1.handled = none := I.ok.hd hc
  have hlv : vs.length = kv.length := rel.length.symm
  have hkv : vs.map (·.1) = ss.map Sum.inr := by rw [← hk]; exact (KV.keys rel).symm
  obtain ⟨ep, hat⟩ := dd.dictAt
  have hz : vs.length ≤ sizeLine := by rw [hlv]; exact z
  refine Calls.call_function_entry kind_sorted plain_sorted entry_sorted (args_sorted1 _) ?_
  unfold Builtin.«sorted»
  refine wpAny_bind (m := checkCount "sorted" 1 1 _) (wpAny_pure (wpAny_bind (PySem.W.kdu_collect (PySem.W.kdl_dict (knd := mixKind X.prog X.w) (kvs := vs) (ep := ep) hm) hin hat hz fun h' tk acc keep items => ?_)))
  have hl : acc.toList.length = vs.length := by rw [Array.length_toList]; exact items.1
  have hS : StrsAre acc.toList ss := keys_strs (P := X.prog) (w := X.w) hkv hl fun j v e => items.2 j v (by rw [← Array.getElem?_toList]; exact e)
  refine wpAny_bind (wpAny_newList ?_ (by rw [hl]; exact hz))
  have hnew : (h'.push { cls := .type "list", data := .seq acc.toList.toArray }).get? h'.objs.size = some (seqObj "list" acc.toList.toArray 0) := Heap.get?_push_size _ rfl
  refine wpAny_bind (wpAny_holding (wpAny_call_entry slot_list_sort ⟨_, hnew, rfl⟩ entry_list_sort (list_sort_treeK strKind_oneLt hnew hS.keysOf (fun v₁ v₂ rest e => keyKind_strs (by rw [← e]; exact hS)) (by rw [hl, hlv]; exact h64) fun st' a1 a2 => ⟨_, rfl, ?_⟩) (args_list_sort _)))
  obtain ⟨ss', b1, b2, b3⟩ := sorted_out_str hS a1 a2
  obtain ⟨ee, he⟩ := sortedHeap_at (out := (arrOf st').map (·.2)) hnew
  refine wpAny_pure ⟨_, rfl, ?_⟩
  have szp : (h'.push { cls := .type "list", data := .seq acc.toList.toArray }).objs.size = h'.objs.size + 1 := size_push' ..
  have I1 := I.kept (t' := tk) keep
  have k2 : ∀ b o, h'.get? b = some o → (sortedHeap (h'.push { cls := .type "list", data := .seq acc.toList.toArray }) h'.objs.size acc.toList ((arrOf st').map (·.2))).get? b = some o := fun b o e => by
    have hb : b < h'.objs.size := Heap.lt_size e
    rw [sortedHeap_old (Nat.ne_of_lt hb) (by rw [szp]; exact Nat.lt_succ_of_lt hb)]
    exact Heap.get?_push_of_some _ e
  have hss : ss'.length ≤ sizeLine := by
    rw [b2.length_eq]
    have := congrArg List.length hk
    rw [List.length_map, List.length_map] at this
    rw [← this]
    exact z
  have new : ObjOk X.prog X.w (upd H h'.objs.size (.lst (ss'.map V.str))) (sortedHeap (h'.push { cls := .type "list", data := .seq acc.toList.toArray }) h'.objs.size acc.toList ((arrOf st').map (·.2))) h'.objs.size (.lst (ss'.map V.str)) :=
    ⟨by rw [List.length_map]; exact hss, ((arrOf st').map (·.2)).toList, ee, vals_strs b1, by rw [Array.toArray_toList]; exact he⟩
  have hf : H h'.objs.size = none := I1.fresh
  exact ⟨.ref h'.objs.size, _, I1.laid (t' := tk) k2 (Nat.le_refl _) new, rfl, q _ ss' _ hf (Same.new hf) upd_same b2 b3⟩
end
end L2

set_option Elab.async false
set_option linter.all false
set_option maxRecDepth 100000
set_option maxHeartbeats 4000000
namespace L2
open PySem PySem.Spec PyProof.Rows
structure Txt (mg : Str → Option Value) : Prop where
  isinstance : mg "isinstance" = none
  int : mg "int" = none
  bool : mg "bool" = none
  str : mg "str" = none
  list : mg "list" = none
  dict : mg "dict" = none
  tuple : mg "tuple" = none
  len : mg "len" = none
  range : mg "range" = none
  max : mg "max" = none
  min : mg "min" = none
  sorted : mg "sorted" = none
  all : mg "all" = none
  any : mg "any" = none
  reversed : mg "reversed" = none
  ValueError : mg "ValueError" = none
  sum : mg "sum" = none
theorem b_isinstance : bootBuiltins "isinstance" = some (.builtin "isinstance") := by decide +kernel
theorem b_int : bootBuiltins "int" = some (.type "int") := by decide +kernel
theorem b_bool : bootBuiltins "bool" = some (.type "bool") := by decide +kernel
theorem b_str : bootBuiltins "str" = some (.type "str") := by decide +kernel
theorem b_list : bootBuiltins "list" = some (.type "list") := by decide +kernel
theorem b_dict : bootBuiltins "dict" = some (.type "dict") := by decide +kernel
theorem b_tuple : bootBuiltins "tuple" = some (.type "tuple") := by decide +kernel
theorem b_max : bootBuiltins "max" = some (.builtin "max") := by decide +kernel
theorem b_min : bootBuiltins "min" = some (.builtin "min") := by decide +kernel
theorem b_sorted : bootBuiltins "sorted" = some (.builtin "sorted") := by decide +kernel
theorem b_all : bootBuiltins "all" = some (.builtin "all") := by decide +kernel
theorem iteBF {c : Bool} {A B : Prop} (hc : c = false) (h : B) : if c = true then A else B := by
  rw [hc]
  exact iteF h
theorem iteBT {c : Bool} {A B : Prop} (hc : c = true) (h : A) : if c = true then A else B := by
  rw [hc]
  exact iteT h
theorem pick_mem {α : Type} {xs : List α} {i : Int} (h0 : 0 ≤ i) (h1 : i < (xs.length : Int)) : ∃ v, atI xs i = some v ∧ v ∈ xs := by
  obtain ⟨n, rfl⟩ := Int.eq_ofNat_of_zero_le h0
  have hn : n < xs.length := by omega
  exact ⟨xs[n], atI_nat (List.getElem?_eq_getElem hn), List.getElem_mem hn⟩
inductive DfE (P : Program) (w : World) (K : PySem.W.Frag) (mg : Str → Option Value) (base : Heap) (x : Str) (ps : List Str) (n : Nat) (sp : Sp) : Prop
  | mk (f : Addr) (fd : FuncData) (k : PySem.W.keepIn K (.ref f) = true) (b : Binds K fd ps []) (m : mg x = some (.ref f)) (G : FnOk P w K mg base CX0 n f fd ps sp) : DfE P w K mg base x ps n sp
structure Df (P : Program) (w : World) (K : PySem.W.Frag) (mg : Str → Option Value) (base : Heap) (x : Str) (ps : List Str) (n : Nat) (sp : Sp) : Prop where
  ex : DfE P w K mg base x ps n sp
theorem Df.mk' {P : Program} {w : World} {K : PySem.W.Frag} {mg : Str → Option Value} {base : Heap} {x q : Str} {st : Stmt} {ps : List Str} {n : Nat} {sp : Sp} {f : Addr} {fd : FuncData} (F : Fun K x q st f fd) (b : Binds K fd ps []) (m : mg x = some (.ref f)) (G : FnOk P w K mg base CX0 n f fd ps sp) : Df P w K mg base x ps n sp := ⟨⟨f, fd, F.kp, b, m, G⟩⟩
theorem mod_b (r : Int) {n : Int} (h : 0 < n) : 0 ≤ r % n ∧ r % n < n := ⟨Int.emod_nonneg _ (by omega), Int.emod_lt_of_pos _ h⟩
def Chg (b : Addr) (H H' : Hp) : Prop := ∀ a o, a ≠ b → H a = some o → H' a = some o
theorem Chg.upd {b : Addr} {H : Hp} {o : HO} : Chg b H (L2.upd H b o) := fun a u h e => by rw [upd_ne h]; exact e
theorem Chg.of {b : Addr} {H H1 H2 : Hp} (s : Same H H1) (c : Chg b H1 H2) : Chg b H H2 := fun a u h e => c a u h (s a u e)
end L2

set_option Elab.async false
set_option linter.all false
set_option maxRecDepth 100000
set_option maxHeartbeats 4000000
namespace L2
open PySem PySem.Spec PyProof.Rows
def txtB (x : Str) : Bool := decide (x.length ≤ 12) && (sgn x).all isL
def LeafV (v : V) : Prop := (∃ i, v = .int i) ∨ ∃ x : Str, v = .str x ∧ txtB x = true
theorem txtB_len {x : Str} (h : txtB x = true) : x.length ≤ 12 := by
  unfold txtB at h
  simp only [Bool.and_eq_true, decide_eq_true_eq] at h
  exact h.1
theorem LeafV.lf {v : V} (h : LeafV v) : Dc.Lf v := by
  rcases h with ⟨i, rfl⟩ | ⟨x, rfl, h⟩
  · exact .inl ⟨i, rfl⟩
  · exact .inr ⟨x, rfl, Nat.le_trans (txtB_len h) (by decide)⟩
namespace Dc
mutual
def ok : Dc → Prop
  | leaf v => LeafV v
  | row _ xs => okL xs
  | tab _ ks xs => (∀ k ∈ ks, nameB k = true) ∧ okL xs
def okL : List Dc → Prop
  | [] => True
  | x :: r => ok x ∧ okL r
end
theorem okL_iff : ∀ {xs : List Dc}, okL xs ↔ ∀ x ∈ xs, ok x
  | [] => by simp [okL]
  | x :: r => by simp only [okL, List.forall_mem_cons, okL_iff (xs := r)]
mutual
theorem put_ok {b : Addr} {i : Nat} {k : Str} {p : Dc} (hp : p.ok) (hk : nameB k = true) : ∀ d : Dc, d.ok → (put b i k p d).ok
  | leaf v, h => h
  | row a xs, h => by
    simp only [put]
    split
    · simp only [ok] at h ⊢
      rw [okL_iff] at h ⊢
      intro x hx
      rcases List.mem_append.mp hx with hx | hx
      · exact h x (List.mem_of_mem_take hx)
      · rcases List.mem_cons.mp hx with rfl | hx
        · exact hp
        · exact h x (List.mem_of_mem_drop hx)
    · simp only [ok] at h ⊢
      exact putL_ok hp hk xs h
  | tab a ks xs, h => by
    simp only [put]
    simp only [ok] at h
    split
    · simp only [ok]
      refine ⟨fun x hx => ?_, ?_⟩
      · rcases List.mem_append.mp hx with hx | hx
        · exact h.1 x hx
        · rw [List.mem_singleton.mp hx]; exact hk
      · rw [okL_iff]
        intro x hx
        rcases List.mem_append.mp hx with hx | hx
        · exact okL_iff.mp h.2 x hx
        · rw [List.mem_singleton.mp hx]; exact hp
    · simp only [ok]
      exact ⟨h.1, putL_ok hp hk xs h.2⟩
theorem putL_ok {b : Addr} {i : Nat} {k : Str} {p : Dc} (hp : p.ok) (hk : nameB k = true) : ∀ xs : List Dc, okL xs → okL (putL b i k p xs)
  | [], h => h
  | x :: r, h => by
    simp only [okL, putL] at h ⊢
    exact ⟨put_ok hp hk x h.1, putL_ok hp hk r h.2⟩
end
mutual
def named (N : List Str) : Dc → Prop
  | leaf _ => True
  | row _ xs => namedL N xs
  | tab _ ks xs => (∀ k ∈ ks, k ∈ N) ∧ namedL N xs
def namedL (N : List Str) : List Dc → Prop
  | [] => True
  | x :: r => named N x ∧ namedL N r
end
theorem namedL_iff {N : List Str} : ∀ {xs : List Dc}, namedL N xs ↔ ∀ x ∈ xs, named N x
  | [] => by simp [namedL]
  | x :: r => by simp only [namedL, List.forall_mem_cons, namedL_iff (xs := r)]
mutual
theorem put_named {N : List Str} {b : Addr} {i : Nat} {k : Str} {p : Dc} (hp : p.named N) (hk : k ∈ N) : ∀ d : Dc, d.named N → (put b i k p d).named N
  | leaf v, h => h
  | row a xs, h => by
    simp only [put]
    split
    · simp only [named] at h ⊢
      rw [namedL_iff] at h ⊢
      intro x hx
      rcases List.mem_append.mp hx with hx | hx
      · exact h x (List.mem_of_mem_take hx)
      · rcases List.mem_cons.mp hx with rfl | hx
        · exact hp
        · exact h x (List.mem_of_mem_drop hx)
    · simp only [named] at h ⊢
      exact putL_named hp hk xs h
  | tab a ks xs, h => by
    simp only [put]
    simp only [named] at h
    split
    · simp only [named]
      refine ⟨fun x hx => ?_, ?_⟩
      · rcases List.mem_append.mp hx with hx | hx
        · exact h.1 x hx
        · rw [List.mem_singleton.mp hx]; exact hk
      · rw [namedL_iff]
        intro x hx
        rcases List.mem_append.mp hx with hx | hx
        · exact namedL_iff.mp h.2 x hx
        · rw [List.mem_singleton.mp hx]; exact hp
    · simp only [named]
      exact ⟨h.1, putL_named hp hk xs h.2⟩
theorem putL_named {N : List Str} {b : Addr} {i : Nat} {k : Str} {p : Dc} (hp : p.named N) (hk : k ∈ N) : ∀ xs : List Dc, namedL N xs → namedL N (putL b i k p xs)
  | [], h => h
  | x :: r, h => by
    simp only [namedL, putL] at h ⊢
    exact ⟨put_named hp hk x h.1, putL_named hp hk r h.2⟩
end
def Bare : Dc → Prop
  | leaf v => LeafV v
  | row _ xs => xs = []
  | tab _ ks xs => ks = [] ∧ xs = []
theorem Bare.ok {p : Dc} (h : Bare p) : p.ok := by
  cases p with
  | leaf v => exact h
  | row a xs => cases (show xs = [] from h); simp [Dc.ok, okL]
  | tab a ks xs => obtain ⟨rfl, rfl⟩ := (show ks = [] ∧ xs = [] from h); simp [Dc.ok, okL]
theorem Bare.named {p : Dc} {N : List Str} (h : Bare p) : p.named N := by
  cases p with
  | leaf v => trivial
  | row a xs => cases (show xs = [] from h); simp [Dc.named, namedL]
  | tab a ks xs => obtain ⟨rfl, rfl⟩ := (show ks = [] ∧ xs = [] from h); simp [Dc.named, namedL]
theorem Bare.size {p : Dc} (h : Bare p) : p.size = 1 := by
  cases p with
  | leaf v => rfl
  | row a xs => cases (show xs = [] from h); simp [Dc.size, sizeL]
  | tab a ks xs => obtain ⟨rfl, rfl⟩ := (show ks = [] ∧ xs = [] from h); simp [Dc.size, sizeL]
theorem Bare.nodup {p : Dc} (h : Bare p) : p.addrs.Nodup := by
  cases p with
  | leaf v => simp [addrs]
  | row a xs => cases (show xs = [] from h); simp [addrs, addrsL]
  | tab a ks xs => obtain ⟨rfl, rfl⟩ := (show ks = [] ∧ xs = [] from h); simp [addrs, addrsL]
def tyS : Dc → String
  | leaf (.int _) => "int"
  | leaf _ => "str"
  | row _ _ => "list"
  | tab _ _ _ => "dict"
theorem tyN {H : Hp} {d : Dc} (h : d.At H) : TyN H d.val d.tyS := by
  cases d with
  | leaf v =>
    rcases (show Lf v from h) with ⟨i, rfl⟩ | ⟨x, rfl, _⟩
    · exact .int i
    · exact .str x
  | row a xs => simp only [At] at h; exact .lst h.1
  | tab a ks xs => simp only [At] at h; exact .dK h.1
def sub : Dc → List V → Option Dc
  | d, [] => some d
  | row _ xs, .int i :: r => if 0 ≤ i then (xs[i.toNat]?).bind fun x => sub x r else none
  | tab _ ks xs, .str k :: r => ((ks.zip xs).lookup k).bind fun x => sub x r
  | _, _ => none
def StepV (v : V) : Prop := (∃ k : Nat, v = .int (k : Int)) ∨ ∃ x : Str, v = .str x ∧ nameB x = true
theorem StepV.flat {v : V} (h : StepV v) : flatV v = true := by
  rcases h with ⟨k, rfl⟩ | ⟨x, rfl, _⟩ <;> rfl
theorem mem_zip_lookup {ks : List Str} {xs : List Dc} {k : Str} {x : Dc} (h : (ks.zip xs).lookup k = some x) : k ∈ ks ∧ x ∈ xs := by
  induction ks generalizing xs with
  | nil => simp at h
  | cons y r ih =>
    cases xs with
    | nil => simp at h
    | cons z zs =>
      simp only [List.zip_cons_cons, List.lookup_cons] at h
      by_cases e : k = y
      · subst e
        simp at h
        subst h
        exact ⟨List.mem_cons_self, List.mem_cons_self⟩
      · have : (k == y) = false := by simpa using e
        rw [this] at h
        have := ih h
        exact ⟨List.mem_cons_of_mem _ this.1, List.mem_cons_of_mem _ this.2⟩
theorem sub_step {d : Dc} (hd : d.ok) {zs : List V} : ∀ {e : Dc}, d.sub zs = some e → (∀ z ∈ zs, StepV z) ∧ zs.length + e.size ≤ d.size ∧ e.ok := by
  induction zs generalizing d with
  | nil =>
    intro e h
    cases d <;> (simp only [sub, Option.some.injEq] at h; subst h; exact ⟨fun z hz => (nomatch hz), by simp, hd⟩)
  | cons z r ih =>
    intro e h
    cases d with
    | leaf v => simp [sub] at h
    | row a xs =>
      cases z with
      | int i =>
        simp only [sub] at h
        by_cases h0 : 0 ≤ i
        · rw [if_pos h0] at h
          cases hx : xs[i.toNat]? with
          | none => rw [hx] at h; simp at h
          | some x =>
            rw [hx] at h
            have hm := List.mem_of_getElem? hx
            simp only [ok] at hd
            obtain ⟨a1, a2, a3⟩ := ih (d := x) (okL_iff.mp hd x hm) h
            have := sizeL_mem hm
            refine ⟨fun z hz => ?_, ?_, a3⟩
            · rcases List.mem_cons.mp hz with rfl | hz
              · exact .inl ⟨i.toNat, by rw [Int.toNat_of_nonneg h0]⟩
              · exact a1 z hz
            · simp only [List.length_cons, size]; omega
        · rw [if_neg h0] at h; simp at h
      | _ => simp [sub] at h
    | tab a ks xs =>
      cases z with
      | str k =>
        simp only [sub] at h
        cases hx : (ks.zip xs).lookup k with
        | none => rw [hx] at h; simp at h
        | some x =>
          rw [hx] at h
          obtain ⟨mk, hm⟩ := mem_zip_lookup hx
          simp only [ok] at hd
          obtain ⟨a1, a2, a3⟩ := ih (d := x) (okL_iff.mp hd.2 x hm) h
          have := sizeL_mem hm
          refine ⟨fun z hz => ?_, ?_, a3⟩
          · rcases List.mem_cons.mp hz with rfl | hz
            · exact .inr ⟨k, rfl, hd.1 k mk⟩
            · exact a1 z hz
          · simp only [List.length_cons, size]; omega
      | _ => simp [sub] at h
theorem valV_kvs {ks : List Str} {xs : List Dc} (h : ks.length = xs.length) (k : Str) : valV (kvs ks xs) (Sum.inr k) = ((ks.zip xs).lookup k).map val := by
  induction ks generalizing xs with
  | nil => simp [kvs, valV_nil]
  | cons y r ih =>
    cases xs with
    | nil => simp at h
    | cons z zs =>
      have e : kvs (y :: r) (z :: zs) = (Sum.inr y, z.val) :: kvs r zs := rfl
      rw [e]
      by_cases hk : k = y
      · subst hk
        rw [valV_pos rfl]
        simp
      · rw [valV_neg (by intro z; exact hk (Sum.inr.inj z).symm), ih (by simpa using h)]
        have : (k == y) = false := by simpa using hk
        simp [List.zip_cons_cons, List.lookup_cons, this]
theorem lookup_of_mem {ks : List Str} {xs : List Dc} (h : ks.length = xs.length) {k : Str} (hk : k ∈ ks) : ∃ x, (ks.zip xs).lookup k = some x ∧ x ∈ xs := by
  induction ks generalizing xs with
  | nil => cases hk
  | cons y r ih =>
    cases xs with
    | nil => simp at h
    | cons z zs =>
      by_cases e : k = y
      · subst e
        exact ⟨z, by simp, List.mem_cons_self⟩
      · obtain ⟨x, h1, h2⟩ := ih (xs := zs) (by simpa using h) ((List.mem_cons.mp hk).resolve_left e)
        refine ⟨x, ?_, List.mem_cons_of_mem _ h2⟩
        have : (k == y) = false := by simpa using e
        simp [List.zip_cons_cons, List.lookup_cons, this, h1]
end Dc
abbrev abc : Str := "abcdefghijklmnopqrstuvwxyz"
theorem abc_len : abc.length = 26 := by decide +kernel
theorem LET_len : LET.length = 26 := by decide +kernel
theorem at_let (i : Int) (h0 : 0 ≤ i) (h1 : i < 26) : ∃ c, atI (sgn abc) i = some c ∧ isL c = true := by
  obtain ⟨n, rfl⟩ := Int.eq_ofNat_of_zero_le h0
  have hn : n < LET.length := by rw [LET_len]; omega
  exact ⟨LET[n], atI_nat (List.getElem?_eq_getElem hn), isL_of_mem (List.getElem_mem hn)⟩
theorem mod26 (r : Int) : 0 ≤ r % 26 ∧ r % 26 < 26 := ⟨Int.emod_nonneg _ (by decide), Int.emod_lt_of_pos _ (by decide)⟩
inductive spCellI (K : PySem.W.Frag) (vs : List V) (H : Hp) (Q : VK) (u3_ : XK) : Prop
  | mk (a : Addr) (ns : List Int) (k : Nat) (x0 : vs = [.ref a, .int (k : Int)]) (x1 : SqL K H a (ns.map V.int)) (x2 : ∀ r : Int, 0 ≤ r → Q (.int r) H) : spCellI K vs H Q u3_
def spCell (K : PySem.W.Frag) : Sp := fun vs H Q u3_ => spCellI K vs H Q u3_
inductive spMixI (vs : List V) (H : Hp) (Q : VK) (u3_ : XK) : Prop
  | mk (c : Int) (k : Nat) (x0 : vs = [.int c, .int (k : Int)]) (x1 : k ≤ 1000) (x2 : ∀ r : Int, 0 ≤ r → r < 2305843009213693951 → Q (.int r) H) : spMixI  vs H Q u3_
def spMix : Sp := fun vs H Q u3_ => spMixI  vs H Q u3_
def divs : Nat → Int → Int
  | 0, n => n
  | k + 1, n => divs k n / 1000000
def mixN (c : Int) (k : Nat) : Int := (((c + 3) * 1181783497276652981 % 2305843009213693951 + ((k : Int) + 1) * 614889782588491411) % 2305843009213693951) * (((c + 3) * 1181783497276652981 % 2305843009213693951 + ((k : Int) + 1) * 614889782588491411) % 2305843009213693951) % 999999999999999989
def mixF (c : Int) (k : Nat) : Int := if c % 4 = 0 ∧ 4 * 10 ^ 60 ≤ c then divs k (c / 4) % 1000000 else (mixN c k + 1) * (mixN c k / 1000003 + 7) % 2305843009213693951 / 7919
theorem mixF_b (c : Int) (k : Nat) : 0 ≤ mixF c k ∧ mixF c k < 2305843009213693951 := by
  unfold mixF
  split
  · have h1 := Int.emod_nonneg (divs k (c / 4)) (show (1000000 : Int) ≠ 0 by decide)
    have h2 := Int.emod_lt_of_pos (divs k (c / 4)) (show (0 : Int) < 1000000 by decide)
    omega
  · have h1 := Int.emod_nonneg ((mixN c k + 1) * (mixN c k / 1000003 + 7)) (show (2305843009213693951 : Int) ≠ 0 by decide)
    have h2 := Int.emod_lt_of_pos ((mixN c k + 1) * (mixN c k / 1000003 + 7)) (show (0 : Int) < 2305843009213693951 by decide)
    omega
inductive spMixFI (vs : List V) (H : Hp) (Q : VK) (u3_ : XK) : Prop
  | mk (c : Int) (k : Nat) (x0 : vs = [.int c, .int (k : Int)]) (x1 : k ≤ 1000) (x2 : Q (.int (mixF c k)) H) : spMixFI  vs H Q u3_
def spMixF : Sp := fun vs H Q u3_ => spMixFI  vs H Q u3_
theorem spMix_of {vs : List V} {H : Hp} {Q : VK} {E : XK} (h : spMix vs H Q E) : spMixF vs H Q E := by
  obtain ⟨c, k, e, hk, q⟩ := h
  exact ⟨c, k, e, hk, q _ (mixF_b c k).1 (mixF_b c k).2⟩
theorem nodup_by {ys : List Str} (P : Nat → Str → Prop) (h : ∀ (j : Nat) y, ys[j]? = some y → P j y) (inj : ∀ (i j : Nat) y, i < j → j < ys.length → P i y → P j y → False) : ys.Nodup := by
  refine List.pairwise_iff_getElem.mpr fun i j hi hj hij e => ?_
  have h1 := h i _ (List.getElem?_eq_getElem hi)
  have h2 := h j _ (List.getElem?_eq_getElem hj)
  rw [← e] at h2
  exact inj i j _ hij hj h1 h2
inductive spNamesI (vs : List V) (H : Hp) (Q : VK) (u3_ : XK) : Prop
  | mk (c : Int) (d : Int) (x0 : vs = [.int c, .int d]) (x1 : ∀ (p : Addr) (ys : List Str) (H' : Hp), Same H H' → H p = none → H' p = some (.lst (ys.map V.str)) → ys.length = 6 → ys.Nodup → (∀ y ∈ ys, nameB y = true) → Q (.ref p) H') : spNamesI  vs H Q u3_
inductive spLeafI (vs : List V) (H : Hp) (Q : VK) (u3_ : XK) : Prop
  | mk (c : Int) (x0 : vs = [.int c]) (x1 : ∀ v H', LeafV v → Same H H' → Q v H') : spLeafI  vs H Q u3_
inductive spPartI (vs : List V) (H : Hp) (Q : VK) (u3_ : XK) : Prop
  | mk (c : Int) (d : Int) (m : Int) (x0 : vs = [.int c, .int d, .int m]) (x1 : ∀ (p : Dc) (H' : Hp), Same H H' → p.At H' → p.Bare → (∀ a ∈ p.addrs, ∀ o u, H' a ≠ some (.frz o u)) → (∀ a ∈ p.addrs, H a = none) → Q p.val H') : spPartI  vs H Q u3_
def spPart : Sp := fun vs H Q u3_ => spPartI  vs H Q u3_
def LaidAt (N : List Str) (b : Addr) (y : V) (H H' : Hp) : Prop :=
  (∃ vs i, H b = some (.lst vs) ∧ H' b = some (.lst (vs.take i ++ y :: vs.drop i))) ∨ ∃ kv k, H b = some (.dK kv) ∧ (Sum.inr k : Key) ∉ kv.map (·.1) ∧ (nameB k = true ∧ k ∈ N) ∧ H' b = some (.dK (kv ++ [(Sum.inr k, y)]))
inductive spLaidI (K : PySem.W.Frag) (vs : List V) (H : Hp) (Q : VK) (u3_ : XK) : Prop
  | mk (b : Addr) (n : Addr) (y : V) (ys : List Str) (c : Int) (x0 : vs = [.ref b, y, .ref n, .int c]) (x1 : 0 ≤ c) (x2 : SqL K H n (ys.map V.str)) (x3 : ys.length ≤ 100) (x4 : (∀ y ∈ ys, nameB y = true)) (x5 : ((∃ vs, H b = some (.lst vs) ∧ vs.length ≤ 1000) ∨ ∃ kv, H b = some (.dK kv) ∧ kv.length ≤ 1000)) (x6 : (∀ H', Chg b H H' → LaidAt ys b y H H' → Q (.bl true) H')) (x7 : ∀ H', Same H H' → Q (.bl false) H') : spLaidI K vs H Q u3_
def spLaid (K : PySem.W.Frag) : Sp := fun vs H Q u3_ => spLaidI K vs H Q u3_
structure Made (H H' : Hp) (d : Dc) : Prop where
  same : Same H H'
  at_ : d.At H'
  ok : d.ok
  nd : d.addrs.Nodup
  own : ∀ a ∈ d.addrs, ∀ o u, H' a ≠ some (.frz o u)
  new : ∀ a ∈ d.addrs, H a = none
inductive spDocI (K : PySem.W.Frag) (vs : List V) (H : Hp) (Q : VK) (u3_ : XK) : Prop
  | mk (a : Addr) (n : Addr) (ns : List Int) (k : Nat) (ys : List Str) (x0 : vs = [.ref a, .int (k : Int), .ref n]) (x1 : SqL K H a (ns.map V.int)) (x2 : ns.length ≤ 63) (x3 : k ≤ 1000) (x4 : H n = some (.lst (ys.map V.str))) (x5 : ys.length ≤ 100) (x6 : (∀ y ∈ ys, nameB y = true)) (x7 : ∀ (t : Addr) (d : Dc) (H' : Hp), Made H H' d → H' t = some (.tup [d.val, .int (d.size : Int)]) → d.size ≤ 40 → (ys ≠ [] → d.named ys) → Q (.ref t) H') : spDocI K vs H Q u3_
inductive spDoc2I (K : PySem.W.Frag) (vs : List V) (H : Hp) (Q : VK) (u3_ : XK) : Prop
  | mk (a : Addr) (n : Addr) (ns : List Int) (k : Nat) (ys : List Str) (x0 : vs = [.ref a, .int (k : Int), .ref n]) (x1 : SqL K H a (ns.map V.int)) (x2 : ns.length ≤ 63) (x3 : k ≤ 1000) (x4 : H n = some (.lst (ys.map V.str))) (x5 : ys.length ≤ 100) (x6 : (∀ y ∈ ys, nameB y = true)) (x7 : ∀ (t : Addr) (d : Dc) (H' : Hp), Made H H' d → H' t = some (.tup [d.val, .int (d.size : Int)]) → d.size ≤ 24 → (ys ≠ [] → d.named ys) → Q (.ref t) H') : spDoc2I K vs H Q u3_
def spDoc2 (K : PySem.W.Frag) : Sp := fun vs H Q u3_ => spDoc2I K vs H Q u3_
inductive spLawI (K : PySem.W.Frag) (vs : List V) (H : Hp) (Q : VK) (u3_ : XK) : Prop
  | mk (a : Addr) (ns : List Int) (x0 : vs = [.ref a]) (x1 : SqL K H a (ns.map V.int)) (x2 : ns.length ≤ 63) (x3 : ∀ H', Q (.bl true) H') : spLawI K vs H Q u3_
def spLaw (K : PySem.W.Frag) : Sp := fun vs H Q u3_ => spLawI K vs H Q u3_
end L2

set_option Elab.async false
set_option linter.all false
set_option maxRecDepth 100000
set_option maxHeartbeats 4000000
namespace L2
open PySem PySem.Spec PyProof.Rows
theorem le_line {n : Nat} (h : n ≤ 1000) : n ≤ sizeLine := Nat.le_of_lt (small1000 h)
theorem two_line {x y : V} : [x, y].length ≤ sizeLine := le_line (show 2 ≤ 1000 by decide)
theorem one_line {x : V} : [x].length ≤ sizeLine := le_line (show 1 ≤ 1000 by decide)
theorem cutV_init (us : List V) (lv : V) : cutV (us ++ [lv]) none (some (-1)) = us := by
  have e1 : HT.sIx (us ++ [lv]).length (us ++ [lv]).length (some (-1)) = us.length := by
    simp only [HT.sIx, List.length_append, List.length_singleton]
    rw [if_pos (by decide)]
    omega
  unfold cutV
  rw [e1, HT.sIx_none, List.drop_zero, Nat.sub_zero]
  exact List.take_left
theorem none0 {P : Program} {w : World} {K : PySem.W.Frag} {mg : Str → Option Value} {base : Heap} {f : Addr} {fd : FuncData} {ps : List Str} {sp : Sp} (no : ∀ vs H Q E, ¬ sp vs H Q E) : FnOk P w K mg base CX0 0 f fd ps sp :=
  ⟨fun vs H Q E h => absurd h (no vs H Q E), fun A outer s H args us vs Q E _ _ _ _ h => absurd h (no vs H Q E)⟩
theorem seq_if {t u : TS} {D : Ends} {σ : St} {H : Hp} (R : Hp → Prop) (k : ∀ H', R H' → u D σ H') (h : (∀ H', R H' → u D σ H') → t { D with nx := u D } σ H) : tSeq t u D σ H := h k
theorem Dc.there {H : Hp} {d : Dc} {b : Addr} (h : d.At H) (hb : b ∈ d.addrs) : H b ≠ none := by
  have f : ∀ u, Rd H b u → H b ≠ none := fun u r z => by
    rcases r with r | ⟨o, r⟩ <;> rw [r] at z <;> cases z
  rcases Dc.holder_at d h hb with ⟨vs, e, _⟩ | ⟨ks, kv, e, _⟩
  · exact f _ e
  · exact f _ e
theorem Rd.exact {H : Hp} {b : Addr} {u : HO} (r : Rd H b u) (no : ∀ o u, H b ≠ some (.frz o u)) : H b = some u := r.elim id fun ⟨o, e⟩ => absurd e (no o u)
theorem frz_up {H H' : Hp} {a : Addr} (h : H a ≠ none) (no : ∀ o u, H a ≠ some (.frz o u)) (s : ∀ o, H a = some o → H' a = some o) : ∀ o u, H' a ≠ some (.frz o u) := fun o u e => by
  cases q : H a with
  | none => exact h q
  | some x =>
    rw [s x q] at e
    cases e
    exact no o u q
structure DocInv (H Hi : Hp) (d : Dc) (L : Addr) (ts : List Addr) : Prop where
  made : Made H Hi d
  nL : H L = none
  eL : Hi L = some (.lst (ts.map V.ref))
  out : L ∉ d.addrs
  hold : ∀ t ∈ ts, ∃ b k, Hi t = some (.tup [.ref b, .int k]) ∧ b ∈ d.addrs
theorem Made.up {H H1 H2 : Hp} {d : Dc} (D : Made H H1 d) (s : Same H1 H2) : Made H H2 d := ⟨D.same.trans s, Dc.at_same s D.at_, D.ok, D.nd, fun a ha => frz_up (Dc.there D.at_ ha) (D.own a ha) (s a), D.new⟩
theorem DocInv.up {H H1 H2 : Hp} {d : Dc} {L : Addr} {ts : List Addr} (D : DocInv H H1 d L ts) (s : Same H1 H2) : DocInv H H2 d L ts :=
  ⟨D.made.up s, D.nL, s _ _ D.eL, D.out, fun t ht => let ⟨b, k, e, hb⟩ := D.hold t ht; ⟨b, k, s _ _ e, hb⟩⟩
theorem DocInv.push {H H1 : Hp} {d : Dc} {L t b : Addr} {k : Int} {ts : List Addr} (D : DocInv H H1 d L ts) (ht : H1 t = some (.tup [.ref b, .int k])) (hb : b ∈ d.addrs) : DocInv H (upd H1 L (.lst (ts.map V.ref ++ [.ref t]))) d L (ts ++ [t]) := by
  have fr : ∀ a ∈ d.addrs, ∀ o, H1 a = some o → upd H1 L (.lst (ts.map V.ref ++ [.ref t])) a = some o := fun a ha o e => by
    have hne : a ≠ L := fun z => D.out (by rw [← z]; exact ha)
    rw [upd_ne hne]
    exact e
  refine ⟨⟨D.made.same.put D.nL, Dc.at_frame d fr D.made.at_, D.made.ok, D.made.nd, fun a ha => frz_up (Dc.there D.made.at_ ha) (D.made.own a ha) (fr a ha), D.made.new⟩, D.nL, by rw [upd_same, List.map_append]; rfl, D.out, fun t' ht' => ?_⟩
  · have ne : ∀ {t' : Addr} {xs : List V}, H1 t' = some (.tup xs) → t' ≠ L := fun h => ne_of h D.eL (by intro z; cases z)
    rcases List.mem_append.mp ht' with h | h
    · obtain ⟨b', k', e, hb'⟩ := D.hold t' h
      exact ⟨b', k', by rw [upd_ne (ne e)]; exact e, hb'⟩
    · rw [List.mem_singleton.mp h]
      exact ⟨b, k, by rw [upd_ne (ne ht)]; exact ht, hb⟩
theorem Made.laid {N : List Str} {H H1 H2 H3 : Hp} {d p : Dc} {b : Addr} (D : Made H H1 d) (s : Same H1 H2) (hp : p.At H2) (pk : p.ok) (pn : p.addrs.Nodup) (po : ∀ a ∈ p.addrs, ∀ o u, H2 a ≠ some (.frz o u)) (new : ∀ a ∈ p.addrs, H1 a = none) (hb : b ∈ d.addrs) (c : Chg b H2 H3) (la : LaidAt N b p.val H2 H3) :
    ∃ d' : Dc, d'.val = d.val ∧ d'.size = d.size + p.size ∧ Made H H3 d' ∧ (∀ a ∈ p.addrs, a ∈ d'.addrs) ∧ (∀ a ∈ d.addrs, a ∈ d'.addrs) ∧ (∀ a ∈ d'.addrs, a ∈ d.addrs ∨ a ∈ p.addrs) ∧ p.At H3 ∧ ((∃ y ∈ N, nameB y = true) → p.named N → d.named N → d'.named N) := by
  have dj : ∀ x ∈ d.addrs, x ∉ p.addrs := fun x hx hp' => Dc.there D.at_ hx (new x hp')
  have hp3 : p.At H3 := Dc.at_frame p (fun a ha o e => c a o (fun z => dj b hb (by rw [← z]; exact ha)) e) hp
  have sm : Same H H3 := fun a o e => c a o (ne_of_none e (D.new b hb)) ((D.same.trans s) a o e)
  have fr : ∀ a ∈ d.addrs, a ≠ b → ∀ o, H2 a = some o → H3 a = some o := fun a _ h o e => c a o h e
  have at2 := Dc.at_same s D.at_
  have own3 : ∀ o u, H3 b ≠ some (.frz o u) := fun o u e => by
    rcases la with ⟨vs, i, _, z⟩ | ⟨kv, k, _, _, ⟨_, _⟩, z⟩ <;> rw [z] at e <;> cases e
  have go : ∀ (i : Nat) (k : Str), (nameB k = true) → ((∃ y ∈ N, nameB y = true) → k ∈ N) → (∀ vs, Rd H2 b (.lst vs) → H3 b = some (.lst (vs.take i ++ p.val :: vs.drop i))) → (∀ kv, Rd H2 b (.dK kv) → (Sum.inr k : Key) ∉ kv.map (·.1) ∧ H3 b = some (.dK (kv ++ [(Sum.inr k, p.val)]))) →
      ∃ d' : Dc, d'.val = d.val ∧ d'.size = d.size + p.size ∧ Made H H3 d' ∧ (∀ a ∈ p.addrs, a ∈ d'.addrs) ∧ (∀ a ∈ d.addrs, a ∈ d'.addrs) ∧ (∀ a ∈ d'.addrs, a ∈ d.addrs ∨ a ∈ p.addrs) ∧ p.At H3 ∧ ((∃ y ∈ N, nameB y = true) → p.named N → d.named N → d'.named N) := fun i k nk inN hrow htab => by
    refine ⟨Dc.put b i k p d, Dc.put_val .., Dc.put_size d hb D.nd, ⟨sm, Dc.put_at hp3 hrow htab d fr D.nd at2, Dc.put_ok pk nk d D.ok, Dc.put_nodup pn d D.nd dj, fun a ha => ?_, fun a ha => ?_⟩, fun a ha => (Dc.put_addrs d a).2.2 hb ha, fun a ha => (Dc.put_addrs d a).2.1 ha, fun a ha => ((Dc.put_addrs d a).1 ha).imp id fun z => z.2, hp3, fun hN n1 n2 => Dc.put_named n1 (inN hN) d n2⟩
    · by_cases hab : a = b
      · subst hab
        exact own3
      · rcases (Dc.put_addrs d a).1 ha with h | h
        · exact frz_up (Dc.there at2 h) ((D.up s).own a h) (fun o => c a o hab)
        · exact frz_up (Dc.there hp h.2) (po a h.2) (fun o => c a o hab)
    · rcases (Dc.put_addrs d a).1 ha with h | h
      · exact D.new a h
      · exact D.same.free (new a h.2)
  have rx : ∀ u, Rd H2 b u → H2 b = some u := fun u r => r.exact ((D.up s).own b hb)
  rcases la with ⟨vs, i, e1, e2⟩ | ⟨kv, k, e1, nk, ⟨nb, nN⟩, e2⟩
  · obtain ⟨k0, hk0, inN⟩ : ∃ k0 : Str, nameB k0 = true ∧ ((∃ y ∈ N, nameB y = true) → k0 ∈ N) := by
      by_cases h : ∃ y ∈ N, nameB y = true
      · obtain ⟨y, h1, h2⟩ := h
        exact ⟨y, h2, fun _ => h1⟩
      · exact ⟨"a", by decide +kernel, fun z => absurd z h⟩
    refine go i k0 hk0 inN (fun vs' e => ?_) (fun kv e => ?_)
    · rw [rx _ e] at e1; cases e1; exact e2
    · rw [rx _ e] at e1; cases e1
  · refine go 0 k nb (fun _ => nN) (fun vs' e => ?_) (fun kv' e => ?_)
    · rw [rx _ e] at e1; cases e1
    · rw [rx _ e] at e1; cases e1; exact ⟨nk, e2⟩
theorem DocInv.laid {N : List Str} {H H1 H2 H3 : Hp} {d p : Dc} {b L : Addr} {ts : List Addr} (D : DocInv H H1 d L ts) (s : Same H1 H2) (hp : p.At H2) (bp : p.Bare) (po : ∀ a ∈ p.addrs, ∀ o u, H2 a ≠ some (.frz o u)) (new : ∀ a ∈ p.addrs, H1 a = none) (hb : b ∈ d.addrs) (c : Chg b H2 H3) (la : LaidAt N b p.val H2 H3) :
    ∃ d' : Dc, d'.val = d.val ∧ d'.size = d.size + 1 ∧ DocInv H H3 d' L ts ∧ (∀ a ∈ p.addrs, a ∈ d'.addrs) ∧ p.At H3 ∧ ((∃ y ∈ N, nameB y = true) → d.named N → d'.named N) := by
  obtain ⟨d', e1, e2, m, i1, i2, i3, at3, nm⟩ := D.made.laid s hp bp.ok bp.nodup po new hb c la
  rw [bp.size] at e2
  have D2 := D.up s
  refine ⟨d', e1, e2, ⟨m, D.nL, ?_, ?_, fun t ht => ?_⟩, i1, at3, fun hN n => nm hN bp.named n⟩
  · exact c _ _ (fun z => D.out (by rw [z]; exact hb)) D2.eL
  · intro h
    rcases i3 L h with h | h
    · exact D.out h
    · have := new L h
      rw [D.eL] at this
      cases this
  · obtain ⟨b', k, e, hb'⟩ := D2.hold t ht
    refine ⟨b', k, c _ _ ?_ e, i2 b' hb'⟩
    rcases la with ⟨vs, i, z, _⟩ | ⟨kv, k', z, _⟩
    · exact ne_of e z (by intro z; cases z)
    · exact ne_of e z (by intro z; cases z)
namespace Dc
mutual
def slim : Dc → Prop
  | leaf _ => True
  | row _ xs => slimL xs
  | tab _ _ xs => xs.length < 64 ∧ slimL xs
def slimL : List Dc → Prop
  | [] => True
  | x :: r => slim x ∧ slimL r
end
theorem slimL_mem : ∀ {xs : List Dc}, slimL xs → ∀ x ∈ xs, slim x
  | [], _, x, hx => nomatch hx
  | y :: r, h, x, hx => by
    simp only [slimL] at h
    rcases List.mem_cons.mp hx with rfl | hx
    · exact h.1
    · exact slimL_mem h.2 x hx
mutual
theorem slim_of : ∀ d : Dc, d.size < 64 → d.slim
  | leaf _, _ => trivial
  | row a xs, h => by
    simp only [size] at h
    simp only [slim]
    exact slimL_of xs (by omega)
  | tab a ks xs, h => by
    simp only [size] at h
    simp only [slim]
    have := lenL xs
    exact ⟨by omega, slimL_of xs (by omega)⟩
theorem slimL_of : ∀ xs : List Dc, sizeL xs < 64 → slimL xs
  | [], _ => trivial
  | x :: r, h => by
    simp only [sizeL] at h
    simp only [slimL]
    exact ⟨slim_of x (by omega), slimL_of r (by omega)⟩
end
def szAt (ks : List Str) (xs : List Dc) (k : Str) : Nat := (((ks.zip xs).lookup k).map size).getD 0
theorem szAt_sum : ∀ {ks : List Str} {xs : List Dc}, ks.length = xs.length → ks.Nodup → (ks.map (szAt ks xs)).sum = sizeL xs
  | [], xs, h, _ => by
    cases xs with
    | nil => rfl
    | cons x r => simp at h
  | k :: ks, [], h, _ => by simp at h
  | k :: ks, x :: xs, h, n => by
    obtain ⟨n1, n2⟩ := List.nodup_cons.mp n
    have e1 : szAt (k :: ks) (x :: xs) k = x.size := by simp [szAt]
    have e2 : ks.map (szAt (k :: ks) (x :: xs)) = ks.map (szAt ks xs) := List.map_congr_left fun y hy => by
      have ne : y ≠ k := fun z => n1 (z ▸ hy)
      have : (y == k) = false := by simpa using ne
      simp [szAt, List.zip_cons_cons, List.lookup_cons, this]
    rw [List.map_cons, List.sum_cons, e1, e2, szAt_sum (by simpa using h) n2]
    simp only [sizeL]
theorem szAt_perm {ks ss : List Str} {xs : List Dc} (h : ks.length = xs.length) (n : ks.Nodup) (p : ss.Perm ks) : (ss.map (szAt ks xs)).sum = sizeL xs := by
  rw [(p.map _).sum_nat, szAt_sum h n]
theorem sizeL_take_succ {xs : List Dc} {i : Nat} {x : Dc} (h : xs[i]? = some x) : sizeL (xs.take (i + 1)) = sizeL (xs.take i) + x.size := by
  rw [List.take_add_one, h, sizeL_append]
  simp [sizeL]
end Dc
end L2

set_option Elab.async false
set_option linter.all false
set_option maxRecDepth 100000
set_option maxHeartbeats 4000000
namespace L2
open PySem PySem.Spec PyProof.Rows
section
variable {X : Cx} {pins : List (Addr × Obj)} {σ : St} {H : Hp} {s : Shared} {a : Addr} {kvs : List (Key × V)}
theorem Inv.freeze (I : Inv X pins σ H s) (e : H a = some (.dK kvs)) : ∃ o, s.heap.get? a = some o ∧ Inv X pins σ (upd H a (.frz o (.dK kvs))) s := by
  have ok := (show ObjOk X.prog X.w H s.heap a (.dK kvs) from I.hok a _ e)
  obtain ⟨z, hm, vs, kv, o, es, ep, ho, r⟩ := id ok
  refine ⟨o, ho, ?_⟩
  have hne : ∀ b u, H b = some u → u ≠ .dK kvs → b ≠ a := fun b u q n w => by
    subst w
    rw [e] at q
    exact n (Option.some.inj q).symm
  have un : Un X.fs [] H (upd H a (.frz o (.dK kvs))) s.heap s.heap :=
    ⟨fun b ob q _ _ _ => q, fun b ob q _ _ _ => ⟨ob.slots, q⟩, fun b ob q n _ => by rw [upd_ne (fun w => by subst w; rw [e] at n; cases n)]; exact n, fun b ob q _ => ⟨ob, q⟩,
      fun b xs q => by rw [upd_ne (hne b _ q (by intro z; cases z))]; exact q, fun b ob u q => by rw [upd_ne (hne b _ q (by intro z; cases z))]; exact q, fun b ps q => ⟨#[], by rw [upd_ne (hne b _ q (by intro z; cases z)), q]; simp⟩⟩
  have hok : HOk X.prog X.w (upd H a (.frz o (.dK kvs))) s.heap := I.hok.write (by rw [e]; trivial) (.inl rfl) (fun b u _ q => q) ⟨o, ho⟩ ⟨ho, ok⟩
  exact I.un (h' := s.heap) (t' := s.toks) un hok
theorem Inv.thaw {o : Obj} (I : Inv X pins σ H s) (e : H a = some (.frz o (.dK kvs))) (nf : ∀ o u, X.H₀ a ≠ some (.frz o u)) : Inv X pins σ (upd H a (.dK kvs)) s := by
  have ok := (show ObjOk X.prog X.w H s.heap a (.frz o (.dK kvs)) from I.hok a _ e)
  have hne : ∀ b u, H b = some u → u ≠ .frz o (.dK kvs) → b ≠ a := fun b u q n w => by
    subst w
    rw [e] at q
    exact n (Option.some.inj q).symm
  have hnn : ∀ b, H b = none → b ≠ a := fun b n w => by subst w; rw [e] at n; cases n
  have B := I.base
  refine ⟨I.ok, I.os, I.bare, ⟨B.keep, B.slot, fun b ob q n hx => by rw [upd_ne (hnn b (B.free b ob q n hx))]; exact B.free b ob q n hx, B.there, fun b xs q => by rw [upd_ne (hne b _ (B.tups b xs q) (by intro z; cases z))]; exact B.tups b xs q,
    fun b ob u q => by rw [upd_ne (fun w => nf ob u (by rw [← w]; exact q))]; exact B.frzs b ob u q, fun b ps q => ?_⟩, I.loc, I.cell, by rw [upd_ne (hnn _ I.free)]; exact I.free, fun x c q => by rw [upd_ne (hnn _ (I.freeC x c q))]; exact I.freeC x c q,
    fun p hp => let ⟨p1, p2, p3⟩ := I.pin p hp; ⟨p1, by rw [upd_ne (hnn _ p2)]; exact p2, p3⟩, fun b u q => ?_, I.len⟩
  · obtain ⟨more, e'⟩ := B.tbls b ps q
    exact ⟨more, by rw [upd_ne (hne b _ e' (by intro z; cases z))]; exact e'⟩
  · by_cases hb : b = a
    · subst hb
      rw [upd_same] at q
      cases q
      exact ok.2
    · rw [upd_ne hb] at q
      exact (I.hok b u q).stay (fun c v _ r => r) (fun c r => by rw [upd_ne (hne c _ r (by intro z; cases z))]; exact r) fun c xs r => by rw [upd_ne (hne c _ r (by intro z; cases z))]; exact r
theorem Inv.nf (I : Inv X pins σ H s) (e : H a = some (.dK kvs)) : ∀ o u, X.H₀ a ≠ some (.frz o u) := fun o u q => by
  have := I.base.frzs a o u q
  rw [e] at this
  cases this
end
def Thaw (a : Addr) (o : Obj) (kvs : List (Key × V)) (k : Hp → Prop) : Hp → Prop := fun H => H a = some (.frz o (.dK kvs)) ∧ k (upd H a (.dK kvs))
inductive tFrzEI (t : TE) (σ : St) (H : Hp) (Q : VK) : Prop
  | mk (a : _) (kvs : _) (x0 : H a = some (.dK kvs)) (x1 : ∀ o, t σ (upd H a (.frz o (.dK kvs))) fun v => Thaw a o kvs (Q v)) : tFrzEI t σ H Q
def tFrzE (t : TE) : TE := fun σ H Q => tFrzEI t σ H Q
inductive tFrzSI (t : TS) (D : Ends) (σ : St) (H : Hp) : Prop
  | mk (a : _) (kvs : _) (x0 : H a = some (.dK kvs)) (x1 : ∀ o, t ⟨fun σ => Thaw a o kvs (D.nx σ), fun v => Thaw a o kvs (D.rt v), fun σ => Thaw a o kvs (D.bk σ), fun σ => Thaw a o kvs (D.ct σ)⟩ σ (upd H a (.frz o (.dK kvs)))) : tFrzSI t D σ H
def tFrzS (t : TS) : TS := fun D σ H => tFrzSI t D σ H
section
variable {X : Cx}
theorem pe_frz {e : Expr} {t : TE} (h : PE X e t) : PE X e (tFrzE t) := by
  rintro pins s σ H Q I ⟨a, kvs, ea, hq⟩
  obtain ⟨o, ho, I'⟩ := I.freeze ea
  exact thn (h pins s σ _ _ I' (hq o)) fun u s1 ⟨v, H1, I1, r1, e1, q1⟩ => ⟨v, _, I1.thaw e1 (I.nf ea), r1, q1⟩
theorem ps_frz {st : Stmt} {t : TS} (h : PS X st t) : PS X st (tFrzS t) := by
  rintro pins s σ H D I ⟨a, kvs, ea, hq⟩
  obtain ⟨o, ho, I'⟩ := I.freeze ea
  refine thn (h pins s σ _ _ I' (hq o)) fun f s1 h1 => ?_
  cases f with
  | next => obtain ⟨σ1, H1, I1, e1, q1⟩ := h1; exact ⟨σ1, _, I1.thaw e1 (I.nf ea), q1⟩
  | brk => obtain ⟨σ1, H1, I1, e1, q1⟩ := h1; exact ⟨σ1, _, I1.thaw e1 (I.nf ea), q1⟩
  | cont => obtain ⟨σ1, H1, I1, e1, q1⟩ := h1; exact ⟨σ1, _, I1.thaw e1 (I.nf ea), q1⟩
  | ret u => obtain ⟨v, σ1, H1, I1, r1, e1, q1⟩ := h1; exact ⟨v, σ1, _, I1.thaw e1 (I.nf ea), r1, q1⟩
theorem pe_alt {e : Expr} {t u : TE} (h : PE X e t) (h' : PE X e u) : PE X e (fun σ H Q => t σ H Q ∨ u σ H Q) := by
  rintro pins s σ H Q I (q | q)
  · exact h pins s σ H Q I q
  · exact h' pins s σ H Q I q
theorem ps_alt {e : Stmt} {t u : TS} (h : PS X e t) (h' : PS X e u) : PS X e (fun D σ H => t D σ H ∨ u D σ H) := by
  rintro pins s σ H D I (q | q)
  · exact h pins s σ H D I q
  · exact h' pins s σ H D I q
end
def Itd (a : Addr) (o : Obj) (kvs : List (Key × V)) : It :=
  ⟨fun i H => H a = some (.frz o (.dK kvs)) ∧ i < kvs.length, fun i H x H' => H' = H ∧ ∃ k v, kvs[i]? = some (k, v) ∧ x = kV k, fun i H => H a = some (.frz o (.dK kvs)) ∧ i = kvs.length⟩
def iDict (tl : TE) : TI := fun σ H R => tl σ H fun x H1 => ∃ a o kvs, x = .ref a ∧ H1 a = some (.frz o (.dK kvs)) ∧ R (Itd a o kvs) H1
theorem rel_key {P : Program} {w : World} {k : Key} {u : Value} (h : (mixKind P w).is k u = true) : RelV (kV k) u := by
  rcases keyIs_shape (k := k) (v := u) h with ⟨i, t, rfl, rfl⟩ | ⟨x, t, rfl, rfl⟩
  · exact ⟨t, rfl⟩
  · exact ⟨t, rfl⟩
theorem turn_dict {P : Program} {w : World} {K : PySem.W.Frag} {tg : Expr} {a it : Addr} {o : Obj} {kvs : List (Key × V)} {vs : List (Key × Value)} {ep : Nat} (hne : a ≠ it) (rel : KV kvs vs) (hD : ∀ h : Heap, h.get? a = some o → h.DictAt (mixKind P w) a vs ep) :
    Turn P w K tg (Itd a o kvs) [it] it (fun i h => h.IsKeyIter it a i vs.length ep) where
  mem := by simp
  obj := fun i h st b hb => by
    have e : b = it := by simpa using hb
    subst e
    obtain ⟨ob, h1, _, h3⟩ := st
    exact ⟨ob, h1, fun v z => by rw [h3] at z; cases z⟩
  keep := fun i h h' st k => st.at fun ob e => k it (by simp) ob e
  item := fun X hp hw _ hc i pins s σ H E I hf st go => by
    subst hp hw
    have f := hf it (by simp)
    obtain ⟨ga, gi⟩ := go
    have hda := hD s.heap (show ObjOk X.prog X.w H s.heap a (.frz o (.dK kvs)) from I.hok a _ ga).1
    refine (Walks.dictKeys (knd := mixKind X.prog X.w) (I.ok.hd hc) it a hne vs ep).item i s _ E (by rw [← rel.length]; exact gi) ⟨st, hda⟩ fun v h' tk hP st' kept => ?_
    obtain ⟨k, x, hkx, hk⟩ := hP
    obtain ⟨ob, h1, h2, h3⟩ := st'.1
    have hkv : ∃ y, kvs[i]? = some (k, y) := by
      have e := congrArg (fun l => l[i]?) (KV.keys rel)
      simp only [List.getElem?_map, hkx, List.getElem?_eq_getElem gi] at e
      have e : kvs[i].1 = k := by simpa using e
      exact ⟨kvs[i].2, by rw [List.getElem?_eq_getElem gi, ← e]⟩
    obtain ⟨y, hy⟩ := hkv
    refine ⟨v, rfl, go_of (o := ob) h1 h2 h3 (by decide) ⟨kV k, H, I.turned (fun b ob' hb e => kept b ob' (by simp [hb]) e) f.1 f.2.1 f.2.2.2.1 f.2.2.2.2.1 f.2.2.2.2.2, rel_key hk, ⟨rfl, k, y, hy, rfl⟩, st'.1, fun b hb => ?_⟩⟩
    have e : b = it := by simpa using hb
    subst e
    exact f.1
  done := fun X hp hw _ hc i pins s σ H E I hf st stop => by
    subst hp hw
    have f := hf it (by simp)
    obtain ⟨ga, gi⟩ := stop
    have gi : i = vs.length := by rw [gi]; exact rel.length
    subst gi
    have hda := hD s.heap (show ObjOk X.prog X.w H s.heap a (.frz o (.dK kvs)) from I.hok a _ ga).1
    refine (Walks.dictKeys (knd := mixKind X.prog X.w) (I.ok.hd hc) it a hne vs ep).done s _ E ⟨st, hda⟩ fun h' tk kept => ?_
    exact ⟨rfl, I.turned (fun b ob hb e => kept b ob (by simp [hb]) e) f.1 f.2.1 f.2.2.2.1 f.2.2.2.2.1 f.2.2.2.2.2⟩
  self := fun A i s Q E st hQ => wpAny_pyIter_keyiter st hQ
section
variable {X : Cx} {tg : Expr}
theorem pi_dict {l : Expr} {tl : TE} (hl : PE X l tl) : PI X tg l (iDict tl) := by
  intro pins s σ H R I h
  refine thn (hl pins s σ H _ I h) fun v s1 zq => zq.elim fun x H1 I1 r1 q1 => ?_
  obtain ⟨a, o, kvs, rfl, ha, q⟩ := q1
  cases r1
  have ok := (show ObjOk X.prog X.w H1 s1.heap a (.frz o (.dK kvs)) from I1.hok a _ ha)
  obtain ⟨ho, z, hm, vs, rel, dd⟩ := ok
  obtain ⟨ep, hat⟩ := dd.dictAt
  obtain ⟨o', es, ho', r'⟩ := id hat
  rw [ho] at ho'
  cases ho'
  have hlt : a < s1.heap.objs.size := Heap.lt_size ho
  refine wpAny_pyIter_dict hm hat ⟨s1.heap.objs.size, [s1.heap.objs.size], _, Itd a o kvs, H1, rfl, I1.kept (t' := s1.toks) fun b ob e => Heap.get?_push_of_some _ e,
    turn_dict (Nat.ne_of_lt hlt) rel (fun h e => ⟨o, es, e, r'⟩), ⟨_, Heap.get?_push_size _ rfl, rfl, rfl⟩, fun b hb => ?_, q⟩
  have e : b = s1.heap.objs.size := by simpa using hb
  subst e
  exact I1.fpOk (Nat.le_refl _) I1.fresh
end
theorem for_dict {a : Addr} {o : Obj} {kvs : List (Key × V)} {g : TG} {tb : TS} {D : Ends} {σ : St} {H : Hp} (Pv : Nat → St → Hp → Prop) (h0 : Pv 0 σ H) (hl : ∀ i σ H, i ≤ kvs.length → Pv i σ H → H a = some (.frz o (.dK kvs)))
    (hs : ∀ i k v σ H, kvs[i]? = some (k, v) → Pv i σ H → g (kV k) σ H fun σ2 H2 => tb { D with nx := Pv (i + 1), ct := Pv (i + 1), bk := D.nx } σ2 H2) (hd : ∀ σ H, Pv kvs.length σ H → D.nx σ H) :
    ∃ W : Nat → Nat → St → Hp → Prop, (∃ m, W 0 m σ H) ∧ ∀ i m σ H, W i m σ H →
      ((Itd a o kvs).stop i H ∧ D.nx σ H) ∨ ((Itd a o kvs).go i H ∧ ∃ N : St → Hp → Prop, (∀ σ' H', N σ' H' → ∃ m', m' < m ∧ W (i + 1) m' σ' H') ∧ ∀ x H', (Itd a o kvs).yld i H x H' → g x σ H' fun σ2 H2 => tb { D with nx := N, ct := N, bk := D.nx } σ2 H2) := by
  refine ⟨fun i m σ H => m = kvs.length - i ∧ i ≤ kvs.length ∧ Pv i σ H, ⟨kvs.length, by simp, Nat.zero_le _, h0⟩, ?_⟩
  rintro i m σ H ⟨rfl, hi, p⟩
  have q := hl i σ H hi p
  by_cases hlt : i < kvs.length
  · refine .inr ⟨⟨q, hlt⟩, Pv (i + 1), fun σ' H' p' => ⟨kvs.length - (i + 1), by omega, rfl, hlt, p'⟩, fun x H' y => ?_⟩
    obtain ⟨e, k, v, hkv, rfl⟩ := y
    subst e
    exact hs i k v σ _ hkv p
  · have e : i = kvs.length := by omega
    subst e
    exact .inl ⟨⟨q, rfl⟩, hd σ H p⟩
def SameR (H H' : Hp) : Prop := ∀ b u, Rd H b u → Rd H' b u
theorem Same.r {H H' : Hp} (s : Same H H') : SameR H H' := fun b u r => r.up fun o => s b o
theorem SameR.trans {H H1 H2 : Hp} (s : SameR H H1) (t : SameR H1 H2) : SameR H H2 := fun b u r => t b u (s b u r)
theorem SameR.frz {H : Hp} {a : Addr} {o : Obj} {kvs : List (Key × V)} (e : H a = some (.dK kvs)) : SameR H (upd H a (.frz o (.dK kvs))) := fun b u r => by
  by_cases hb : b = a
  · subst hb
    rcases r with r | ⟨o', r⟩
    · rw [e] at r; cases r; exact .inr ⟨o, upd_same⟩
    · rw [e] at r; cases r
  · exact r.up fun o' q => by rw [upd_ne hb]; exact q
theorem Dc.at_sameR {H H' : Hp} {d : Dc} (s : SameR H H') (h : d.At H) : d.At H' := Dc.at_read d (fun a _ u r => s a u r) h
end L2

set_option Elab.async false
set_option linter.all false
set_option maxRecDepth 100000
set_option maxHeartbeats 4000000
namespace PySem
open PyProof.Rows PySem.F PySem.Spec
theorem list_keys_none : typeLookup (.type "list") "keys" = pure none := by rw [typeLookup_type, builtinLookup_eq_fast]; kernel_rfl
theorem keys_miss_list {prog : Program} {w : World} {A : Around} {E : Value → Shared → Prop} {s : Shared} {a : Addr} {o : Obj} {xs : Array Value} {k : Nat} {Q : Option Value → Shared → Prop}
    (hx : s.heap.get? a = some o) (hc : o.cls = .type "list") (hdat : o.data = .seq xs k) (hd : o.dict = none) (hA : A.handled = none)
    (h : ∀ h' tk e, Heap.NewExcOf s.heap h' e "AttributeError" → Q none { s with heap := h', toks := tk }) :
    wpAny (model prog w) A (getAttr? (.ref a) "keys") Q E s := by
  obtain ⟨c, dct, dat, sl⟩ := o
  simp only at hc hdat hd
  subst hc hdat hd
  obtain ⟨hp, g, d, tk, os⟩ := s
  have hT : ∀ tk', (⟨hp, g, d, tk', os⟩ : Shared).TypeIs (.ref a) "list" := fun _ => ⟨_, hx, rfl⟩
  have f1 := sub_AttributeError
  have f3 := F.slot_list_getattribute.lookup
  have f4 := F.slot_list_getattribute.bind (.ref a)
  have f5 := am_list_getattr_none
  unfold getAttr? getAttrBy? getAttrBy
  repeat (any_goals (first | assumption | exact hT _ | ((with_reducible show wpAny _ _ (call (Value.builtin "list.__getattribute__") _ _) _ _ _); refine call_meets F.slot_list_getattribute (hT _) am_entry_list_getattribute (F.args_list_getattribute_2 _ _) (meets_getattribute_miss_list a xs k sl "keys" _ list_keys_none (by decide +kernel) (by decide +kernel)) ⟨hx, hA, fun h' tk' e hx' => ?_⟩) | wp_step))
  obtain ⟨t', u', he⟩ := hx'.there
  show wpAny _ _ (getattributeRaised _ _ _ _ _ _ _) _ _ _
  unfold getattributeRaised
  repeat (any_goals (first | assumption | wp_step))
  exact h _ _ _ hx'.of
theorem entry_dict_loop : entryFor table "dict.update.loop" = some Builtin.«dict.update.loop» := entryFor_of_tree (by kernel_rfl)
theorem plain_dict_loop : plainId "dict.update.loop" = true := by decide +kernel
section
variable {prog : Program} {w : World} {K : Type} [DecidableEq K] {knd : KeyKind prog w K} {A : Around} {R : Result → Shared → Prop}
theorem dict_loop {I l d : Addr} {items : Array Value} {more : List (K × Value)} (hh : A.handled = none) (hne : l ≠ I) (hdI : d ≠ I) (hdl : d ≠ l) (hlen : items.size = more.length) (hsz : more.length ≤ 100000) :
    ∀ (k i : Nat) (s : Shared), more.length - i = k → i ≤ more.length → s.heap.IsListIter I l i → s.heap.IsList l items → s.heap.DictOf knd d (merged [] (more.take i)) →
      (∀ (j : Nat) k' v', more[j]? = some (k', v') → ∃ t key, items[j]? = some (.ref t) ∧ t ≠ d ∧ t ≠ I ∧ IsTup s.heap t #[key, v'] ∧ knd.is k' key = true) →
      (∀ h' tk, h'.DictOf knd d (merged [] more) → (∀ b o, b ≠ d → b ≠ I → s.heap.get? b = some o → h'.get? b = some o) → R (.ok (.ret .none)) { s with heap := h', toks := tk }) →
      codeAny (model prog w) A (.builtin "dict.update.loop" ⟨[.ref d, .ref I, rawInt (i : Int), .none], []⟩) R s := by
  have W := Walks.list (prog := prog) (w := w) (A := A.in1) hh I l hne items
  intro k
  induction k with
  | zero =>
    intro i s hk hi hit hl hd hp hR
    have hin : i = more.length := by omega
    subst hin
    refine codeAny_builtin entry_dict_loop ?_
    rw [Around.under_plainId plain_dict_loop _]
    show wpAny _ A.in1 (pyNext (.ref I) >>= _) _ _ s
    refine wpAny_bind (W.done s _ _ (by rw [hlen]; exact ⟨hit, hl⟩) fun h' tk kept => ?_)
    rw [List.take_length] at hd
    obtain ⟨o, es, ep, ho, r⟩ := hd
    show wpAny _ A.in1 (Builtin.Dict.addKeywords d [] >>= _) _ _ _
    exact wpAny_bind (wpAny_pure (wpAny_pure (hR h' tk ⟨o, es, ep, kept _ _ (by simp [hdI]) ho, r⟩ fun b o _ hb e => kept b o (by simp [hb]) e)))
  | succ k ih =>
    intro i s hk hi hit hl hd hp hR
    have hlt : i < more.length := by omega
    obtain ⟨⟨k', v'⟩, hm⟩ : ∃ p, more[i]? = some p := ⟨_, List.getElem?_eq_getElem hlt⟩
    obtain ⟨t, key, ht, td, tI, tup, hkey⟩ := hp i k' v' hm
    refine codeAny_builtin entry_dict_loop ?_
    rw [Around.under_plainId plain_dict_loop _]
    show wpAny _ A.in1 (pyNext (.ref I) >>= _) _ _ s
    refine wpAny_bind (W.item i s _ _ (by rw [hlen]; exact hlt) ⟨hit, hl⟩ fun v h' tk hv st' kept => ?_)
    rw [ht] at hv
    cases hv
    obtain ⟨ot, hot, hct, nt, hdt⟩ := tup
    have hot' : h'.get? t = some ot := kept _ _ (by simp [tI]) hot
    have hT : ({ s with heap := h', toks := tk } : Shared).TypeIs (.ref t) "tuple" := ⟨_, hot', hct⟩
    obtain ⟨ct, dt, dat, slt⟩ := ot
    simp only at hct hdt
    subst hct hdt
    obtain ⟨o, es, ep, ho, r⟩ := id hd
    have hd' : h'.DictOf knd d (merged [] (more.take i)) := ⟨o, es, ep, kept _ _ (by simp [hdI]) ho, r⟩
    have hml : (merged [] (more.take i)).length ≤ sizeLine := by
      have := merged_length_le ([] : List (K × Value)) (more.take i)
      rw [List.length_take, List.length_nil] at this
      have e : sizeLine = 16777216 := sizeLine_eq
      omega
    show wpAny _ A.in1 (holding [Value.ref t] _ >>= _) _ _ _
    refine wpAny_bind (wpAny_holding (wpAny_bind (wpAny_tryCatch ?_)))
    unfold Builtin.Dict.pairItems
    refine wpAny_bind (wpAny_typeOf hT ?_)
    rw [if_pos (by decide)]
    unfold seqItems?
    refine wpAny_bind ?_
    refine wpAny_bind (wpAny_load hot' ?_)
    refine wpAny_pure (wpAny_pure ?_)
    show wpAny _ A.in1 (holding [key, v'] (dictSet d key v')) _ _ _
    refine wpAny_holding ?_
    unfold dictSet
    try with_reducible refine wpAny_holding ?_
    refine wpAny_bind (knd.pyHash hkey ?_)
    refine wpAny_dictSetHashed_pairs (hsz := hml) hkey hd' fun h2 hd2 hs2 => ?_
    have e1 : stored (merged [] (more.take i)) k' v' = merged [] (more.take (i + 1)) := (merged_take_succ [] more i (k', v') hm).symm
    rw [e1] at hd2
    have kp : ∀ b o, b ≠ d → b ≠ I → s.heap.get? b = some o → h2.get? b = some o := fun b o h1 h3 e => by
      rw [hs2.2 b h1]
      exact kept b o (by simp [h3]) e
    have ic : ((i : Int) + 1) = ((i + 1 : Nat) : Int) := by simp
    refine wpAny_pure ⟨plainId_quiet plain_dict_loop _, ?_⟩
    rw [ic]
    refine ih (i + 1) _ (by omega) hlt (st'.1.at fun o e => by rw [hs2.2 I (Ne.symm hdI)]; exact e) (st'.2.at fun o e => by rw [hs2.2 l (Ne.symm hdl)]; exact e) hd2 (fun j k2 v2 hj => ?_) (fun h3 tk3 hd3 kp3 => hR h3 tk3 hd3 fun b o h1 h4 e => kp3 b o h1 h4 (kp b o h1 h4 e))
    obtain ⟨t2, key2, a1, a2, a3, ⟨ot2, b1, b2⟩, a5⟩ := hp j k2 v2 hj
    exact ⟨t2, key2, a1, a2, a3, ⟨ot2, kp _ _ a2 a3 b1, b2⟩, a5⟩
end
end PySem
namespace L2
open PySem PySem.Spec PyProof.Rows
section
variable {X : Cx}
inductive rDictPI (K : PySem.W.Frag) (xs : List V) (H : Hp) (Q : VK) : Prop
  | mk (l : Addr) (ts : List Addr) (kvs : List (Key × V)) (x0 : xs = [.ref l]) (x1 : SqL K H l (ts.map V.ref)) (x2 : ts.length = kvs.length) (x3 : (∀ (j : Nat) k v, kvs[j]? = some (k, v) → ∃ t, ts[j]? = some t ∧ H t = some (.tup [kV k, v]))) (x4 : kvs.length ≤ 1000) (x5 : ∀ p, H p = none → Q (.ref p) (upd H p (.dK (mergeK [] kvs)))) : rDictPI K xs H Q
def rDictP (K : PySem.W.Frag) : List V → Hp → VK → Prop := fun xs H Q => rDictPI K xs H Q
theorem call_dict_pairs (hc : X.calm = true) : CallR X (.type "dict") (rDictP X.K) := by
  intro pins s σ H xs us Q I r h
  obtain ⟨l, ts, kvs, rfl, hl, hlen, hp, hz, q⟩ := h
  obtain ⟨u, rfl, ru⟩ := vals1 r
  cases ru
  obtain ⟨its, rv, pl, _⟩ := I.list hl
  obtain ⟨ol, nl, hol, hcl, hdn, hdl⟩ := id pl
  have hin : X.A.in1.handled = none := I.ok.hd hc
  refine callType_codes (Q₁ := fun obj s₁ => obj = .ref s.heap.objs.size ∧ s₁ = { s with heap := s.heap.push { cls := .type "dict", data := .dict #[] } }) F.kt_called_dict (F.kt_typeCall_dict_1 _) F.entry_dict_init (kt_code_dict_new _ ⟨rfl, rfl⟩) ?_
  rintro obj s₁ ⟨rfl, rfl⟩
  have hnew : (s.heap.push { cls := .type "dict", data := .dict #[] }).DictOf (mixKind X.prog X.w) s.heap.objs.size [] := Heap.DictOf.new s.heap
  refine ⟨hnew.typeIs, F.args_dict_init_2 _ _, ?_⟩
  unfold Builtin.«dict.__init__»
  refine wpAny_bind ?_
  unfold Builtin.Dict.selfAndRest
  refine wpAny_bind (wpAny_notOrdered_dict hnew.typeIs ?_)
  show wpAny _ _ (pure (s.heap.objs.size, [Value.ref l])) _ _ _
  refine wpAny_pure ?_
  show wpAny _ _ (Builtin.Dict.updateFrom "dict.__init__" s.heap.objs.size (.ref l) [] .none) _ _ _
  unfold Builtin.Dict.updateFrom
  have hol' : (s.heap.push { cls := .type "dict", data := .dict #[] }).get? l = some ol := Heap.get?_push_of_some _ hol
  have hTl : ({ s with heap := s.heap.push { cls := .type "dict", data := .dict #[] } } : Shared).TypeIs (.ref l) "list" := ⟨_, hol', hcl⟩
  refine wpAny_bind (wpAny_typeOf hTl ?_)
  rw [if_pos (by decide)]
  refine wpAny_bind (keys_miss_list hol' hcl hdl hdn hin fun h1 tk1 e1 ne1 => ?_)
  rw [if_pos (show (Option.isNone (none : Option Value)) = true from rfl)]
  have kp1 : ∀ b o, (s.heap.push { cls := .type "dict", data := .dict #[] }).get? b = some o → h1.get? b = some o := ne1.keeps
  have kp0 : ∀ b o, s.heap.get? b = some o → h1.get? b = some o := fun b o e => kp1 b o (Heap.get?_push_of_some _ e)
  have hl1 : h1.IsList l its.toArray := ⟨ol, kp1 _ _ hol', hcl, nl, hdl⟩
  refine wpAny_bind (wpAny_rule ?_)
  refine wpAny_bind (wpAny_pyIter_list hl1 ?_)
  refine wpAny_pure ⟨plainId_quiet plain_dict_loop _, ?_⟩
  obtain ⟨od, es, ep, hod, rd⟩ := id hnew
  have hlt : s.heap.objs.size < h1.objs.size := Heap.lt_size (kp1 _ _ hod)
  have hll : l < s.heap.objs.size := Heap.lt_size hol
  have conc : ∀ kvs : List (Key × V), (∀ p ∈ kvs, ∃ (t : Addr), H t = some (.tup [kV p.1, p.2])) → True := fun _ _ => trivial
  have tupAt : ∀ (t : Addr) k v, H t = some (.tup [kV k, v]) → ∃ key v', IsTup s.heap t #[key, v'] ∧ (mixKind X.prog X.w).is k key = true ∧ RelV v v' := fun t k v e => by
    obtain ⟨z, r2, tp, _⟩ := I.tuple (SqT.of e)
    cases r2 with
    | cons ra rr =>
      cases rr with
      | cons rb rr =>
        cases rr
        exact ⟨_, _, tp, kV_is ra, rb⟩
  obtain ⟨more, hmore⟩ : ∃ more : List (Key × Value), KV kvs more ∧ ∀ (j : Nat) k' v', more[j]? = some (k', v') → ∃ t key, ts[j]? = some t ∧ IsTup s.heap t #[key, v'] ∧ (mixKind X.prog X.w).is k' key = true := by
    have gen : ∀ (kvs : List (Key × V)) (ts : List Addr), (∀ (j : Nat) k v, kvs[j]? = some (k, v) → ∃ t, ts[j]? = some t ∧ H t = some (.tup [kV k, v])) →
        ∃ more : List (Key × Value), KV kvs more ∧ ∀ (j : Nat) k' v', more[j]? = some (k', v') → ∃ t key, ts[j]? = some t ∧ IsTup s.heap t #[key, v'] ∧ (mixKind X.prog X.w).is k' key = true := by
      intro kvs
      induction kvs with
      | nil => exact fun ts _ => ⟨[], .nil, fun j k' v' e => by simp at e⟩
      | cons p r ih =>
        intro ts h
        obtain ⟨k, v⟩ := p
        obtain ⟨t, e1, e2⟩ := h 0 k v rfl
        obtain ⟨key, v', a1, a2, a3⟩ := tupAt t k v e2
        obtain ⟨more, b1, b2⟩ := ih ts.tail (fun j k v e => by
          obtain ⟨t, c1, c2⟩ := h (j + 1) k v (by simpa using e)
          exact ⟨t, by rw [List.getElem?_tail]; exact c1, c2⟩)
        refine ⟨(k, v') :: more, .cons ⟨rfl, a3⟩ b1, fun j k' v'' e => ?_⟩
        cases j with
        | zero =>
          have e : (k, v') = (k', v'') := by simpa using e
          cases e
          exact ⟨t, key, e1, a1, a2⟩
        | succ j =>
          obtain ⟨t, key, c1, c2, c3⟩ := b2 j k' v'' (by simpa using e)
          exact ⟨t, key, by rw [List.getElem?_tail] at c1; exact c1, c2, c3⟩
    exact gen kvs ts hp
  obtain ⟨rel, hm⟩ := hmore
  have hitl : its.length = ts.length := by rw [← rv.length, List.length_map]
  have itAt : ∀ (j : Nat) t, ts[j]? = some t → its.toArray[j]? = some (.ref t) := fun j t e => by
    obtain ⟨u, h1, h2⟩ := rv.get (show (ts.map V.ref)[j]? = some (.ref t) by rw [List.getElem?_map, e]; rfl)
    cases h2
    simpa using h1
  show codeAny _ _ (.builtin "dict.update.loop" ⟨[.ref s.heap.objs.size, .ref h1.objs.size, rawInt ((0 : Nat) : Int), .none], []⟩) _ _
  refine dict_loop (knd := mixKind X.prog X.w) (l := l) (items := its.toArray) (more := more) hin (Nat.ne_of_lt (Nat.lt_trans hll hlt)) (Nat.ne_of_lt hlt) (Nat.ne_of_gt hll) (by rw [List.size_toArray, hitl, hlen]; exact rel.length) (by rw [← rel.length]; omega) more.length 0 _ (by simp) (Nat.zero_le _)
    ⟨_, Heap.get?_push_size _ rfl, rfl, rfl⟩ ⟨ol, Heap.get?_push_of_some _ (kp1 _ _ hol'), hcl, nl, hdl⟩ ⟨od, es, ep, Heap.get?_push_of_some _ (kp1 _ _ hod), rd⟩ (fun j k' v' e => ?_) (fun h2 tk2 hd2 kp2 => ⟨rfl, ?_⟩)
  · obtain ⟨t, key, c1, ⟨ot, c2, c2'⟩, c3⟩ := hm j k' v' e
    have : t < s.heap.objs.size := Heap.lt_size c2
    exact ⟨t, key, itAt j t c1, Nat.ne_of_lt this, Nat.ne_of_lt (Nat.lt_trans this hlt), ⟨ot, Heap.get?_push_of_some _ (kp0 _ _ c2), c2'⟩, c3⟩
  · have hz2 : (mergeK [] kvs).length ≤ sizeLine := by
      have := length_mergeK kvs []
      exact le_line (by simp at this; omega)
    refine ⟨.ref s.heap.objs.size, _, I.laid (t' := tk2) (fun b o e => ?_) (Nat.le_refl _) (dk_new hz2 (beq_eq_false_iff_ne.mpr (Ne.symm (Nat.ne_of_lt I.big))) (KV.merge rel .nil) hd2), rfl, q _ I.fresh⟩
    have := Heap.lt_size e
    exact kp2 b o (Nat.ne_of_lt this) (Nat.ne_of_lt (Nat.lt_trans this hlt)) (Heap.get?_push_of_some _ (kp0 _ _ e))
end
end L2

set_option Elab.async false
set_option linter.all false
set_option maxRecDepth 100000
set_option maxHeartbeats 4000000
namespace L2
open PySem PySem.Spec PyProof.Rows
theorem eqV_self {x : V} (h : flatV x = true) : eqV x x = true := by
  cases x <;> simp_all [flatV, eqV]
theorem eqTs_self {xs : List V} (h : ∀ z ∈ xs, flatV z = true) : eqTs xs xs = true := by
  unfold eqTs
  rw [Nat.min_self, Bool.and_eq_true]
  refine ⟨List.all_eq_true.mpr fun j hj => ?_, beq_self_eq_true _⟩
  have hj := List.mem_range.mp hj
  rw [List.getD_eq_getElem?_getD, List.getElem?_eq_getElem hj]
  exact eqV_self (h _ (List.getElem_mem hj))
section
variable {X : Cx}
theorem flat_eqAt {pins : List (Addr × Obj)} {σ : St} {H : Hp} {s : Shared} {A : Around} {xs ys : List V} {its its2 : List Value} (r1 : Vals xs its) (r2 : Vals ys its2) (fx : ∀ z ∈ xs, flatV z = true) (fy : ∀ z ∈ ys, flatV z = true)
    (j : Nat) (h1 : j < its.toArray.size) (h2 : j < its2.toArray.size) : SeqAt.EqAt A s its.toArray[j] its2.toArray[j] (eqV (xs.getD j .non) (ys.getD j .non)) := by
  have e1 : its.toArray.size = xs.length := by rw [List.size_toArray]; exact r1.length.symm
  have e2 : its2.toArray.size = ys.length := by rw [List.size_toArray]; exact r2.length.symm
  have h1' : j < xs.length := by rw [← e1]; exact h1
  have h2' : j < ys.length := by rw [← e2]; exact h2
  obtain ⟨u1, g1, s1⟩ := r1.get (List.getElem?_eq_getElem h1')
  obtain ⟨u2, g2, s2⟩ := r2.get (List.getElem?_eq_getElem h2')
  have w1 : its.toArray[j] = u1 := by
    have := (List.getElem?_eq_some_iff.mp g1).2
    simpa using this
  have w2 : its2.toArray[j] = u2 := by
    have := (List.getElem?_eq_some_iff.mp g2).2
    simpa using this
  rw [w1, w2]
  have d1 : xs.getD j .non = xs[j] := by rw [List.getD_eq_getElem?_getD, List.getElem?_eq_getElem h1']; rfl
  have d2 : ys.getD j .non = ys[j] := by rw [List.getD_eq_getElem?_getD, List.getElem?_eq_getElem h2']; rfl
  rw [d1, d2]
  exact eqAt_V s1 s2 (fx _ (List.getElem_mem h1')) (fy _ (List.getElem_mem h2'))
inductive rEqLI (K : PySem.W.Frag) (neg : Bool) (x : V) (y : V) (H : Hp) (Q : VK) : Prop
  | mk (a : Addr) (b : Addr) (xs : List V) (ys : List V) (x0 : x = .ref a) (x1 : y = .ref b) (x2 : SqL K H a xs) (x3 : SqL K H b ys) (x4 : (∀ z ∈ xs, flatV z = true)) (x5 : (∀ z ∈ ys, flatV z = true)) (x6 : Q (.bl (if neg then !eqTs xs ys else eqTs xs ys)) H) : rEqLI K neg x y H Q
def rEqL (K : PySem.W.Frag) (neg : Bool) : R2 := fun x y H Q => rEqLI K neg x y H Q
theorem op_neL (hu : X.A.units < cLine) : OpR X (compareOp .NotEq) (rEqL X.K true) := by
  intro pins s σ H x y v u Q I rx ry h
  obtain ⟨a, b, xs, ys, rfl, rfl, ha, hb, fx, fy, q⟩ := h
  cases rx
  cases ry
  obtain ⟨its, r1, p1, _⟩ := I.list ha
  obtain ⟨its2, r2, p2, _⟩ := I.list hb
  have e1 : its.toArray.size = xs.length := by rw [List.size_toArray]; exact r1.length.symm
  have e2 : its2.toArray.size = ys.length := by rw [List.size_toArray]; exact r2.length.symm
  by_cases hl : xs.length = ys.length
  · refine SeqAt.RcNeAt.lists (e := fun j => eqV (xs.getD j .non) (ys.getD j .non)) p1.isList p2.isList (by rw [e1, e2, hl]) hu (fun j h1 h2 => flat_eqAt (pins := pins) (σ := σ) (H := H) r1 r2 fx fy j h1 h2) _ _ _ _ ?_
    refine ⟨.bl (!eqTs xs ys), H, I, ?_, q⟩
    show Value.bool _ = Value.bool _
    congr 2
    unfold eqTs
    rw [e1, hl, Nat.min_self, beq_self_eq_true, Bool.and_true]
  · refine SeqAt.RcNeAt.lists_lengths p1.isList p2.isList (by rw [e1, e2]; simpa using hl) hu _ _ _ _ ⟨.bl (!eqTs xs ys), H, I, ?_, q⟩
    show Value.bool _ = Value.bool _
    congr 1
    unfold eqTs
    rw [beq_eq_false_iff_ne.mpr hl, Bool.and_false]
    rfl
theorem pe_range {a : Expr} {ta : TA} {p pos : Pos} (hg : Gl X "range") (hm : X.mg "range" = none) (ha : PA X [a] ta) (hs : starEach [a] X.env = [(false, eval a X.env)] := by rfl) :
    PE X (.Call (.Name "range" p) [a] [] pos) (fun σ H Q => ta σ H fun vs H1 => ∃ j : Int, vs = [.int j] ∧ ∀ r, H1 r = none → Q (.ref r) (upd H1 r (.rng 0 j))) := by
  intro pins s σ H Q I h
  refine Call_ (ld_blt I hg hm boot_range (PyProof.Rows.callWith_type1 (thn (ha pos pins s σ H _ I h) fun us s1 zq => zq.elim fun vs H1 I1 r1 q1 => ?_) hs rfl))
  obtain ⟨j, e, q⟩ := q1
  subst e
  cases r1 with
  | cons r rr =>
    cases rr
    obtain ⟨t, rfl⟩ := r
    exact call_range_1 ⟨.ref s1.heap.objs.size, upd H1 s1.heap.objs.size (.rng 0 j), I1.laid (fun b o e => Heap.get?_push_of_some _ e) (Nat.le_refl _) ⟨_, _, _, Heap.get?_push_size _ rfl⟩, rfl, q _ I1.fresh⟩
inductive r_call_list_rngI (xs : List V) (H : Hp) (Q : VK) : Prop
  | mk (r : Addr) (n : Nat) (h0_ : xs = [.ref r]) (h1_ : H r = some (.rng 0 (n : Int))) (h2_ : n ≤ 1000) (h3_ : ∀ l, H l = none → Q (.ref l) (upd H l (.lst ((List.range n).map fun (i : Nat) => V.int (i : Int))))) : r_call_list_rngI xs H Q
def r_call_list_rng : List V → Hp → VK → Prop := fun xs H Q => r_call_list_rngI xs H Q
theorem call_list_rng (hc : X.calm = true) : CallR X (.type "list") r_call_list_rng := by
  intro pins s σ H xs us Q I r h
  obtain ⟨r0, n, rfl, hr, hn, q⟩ := h
  obtain ⟨u, rfl, ru⟩ := vals1 r
  cases ru
  obtain ⟨t, u, v, e⟩ := (show ObjOk X.prog X.w H s.heap r0 (.rng 0 (n : Int)) from I.hok r0 _ hr)
  have hin : X.A.handled = none := I.ok.hd hc
  refine call_list_range (n := n) hin e (small_one (by omega) (by omega) (by omega) (by omega)) (by rw [rangeSize_one]; split <;> omega) (by omega) fun h' tk acc c' kp e' it => ?_
  have hz : ((List.range n).map fun (i : Nat) => V.int (i : Int)).length ≤ sizeLine := by rw [List.length_map, List.length_range]; exact le_line hn
  refine ⟨.ref s.heap.objs.size, _, I.laid (t' := tk) kp (Nat.le_refl _) (show ObjOk X.prog X.w _ h' _ (.lst _) from ⟨hz, acc.toList, c', ?_, by rw [Array.toArray_toList]; exact e'⟩), rfl, q _ I.fresh⟩
  have gen : ∀ (n : Nat) (l : List Value), l.length = n → (∀ (i : Nat) v, l[i]? = some v → ∃ t, v = Value.int (0 + (i : Int) * 1) t) → Vals ((List.range n).map fun (i : Nat) => V.int (i : Int)) l := by
    intro n
    induction n with
    | zero => intro l hl _; rw [List.eq_nil_of_length_eq_zero hl]; exact .nil
    | succ n ih =>
      intro l hl hi
      have hne : l ≠ [] := fun z => by rw [z] at hl; cases hl
      have e1 : l = l.dropLast ++ [l.getLast hne] := (List.dropLast_concat_getLast hne).symm
      rw [List.range_succ, List.map_append, e1]
      refine (ih l.dropLast (by rw [List.length_dropLast, hl]; rfl) fun i v hv => ?_).append (.cons ?_ .nil)
      · refine hi i v ?_
        rw [e1, List.getElem?_append_left ((List.getElem?_eq_some_iff.mp hv).1)]
        exact hv
      · have : l[n]? = some (l.getLast hne) := by
          rw [List.getLast_eq_getElem]
          have : l.length - 1 = n := by omega
          rw [List.getElem?_eq_getElem (by omega)]
          congr 1
          simp [this]
        obtain ⟨t, e⟩ := hi n _ this
        exact ⟨t, by rw [e]; congr 1; omega⟩
  exact gen n acc.toList (by rw [Array.length_toList]; exact it.1) fun i v hv => it.2 i v (by rw [← Array.getElem?_toList]; exact hv)
inductive r_call_dict_copyI (xs : List V) (H : Hp) (Q : VK) : Prop
  | mk (a : _) (kvs : _) (h0_ : xs = [.ref a]) (h1_ : Rd H a (.dK kvs)) (h2_ : ∀ p, H p = none → Q (.ref p) (upd H p (.dK kvs))) : r_call_dict_copyI xs H Q
def r_call_dict_copy : List V → Hp → VK → Prop := fun xs H Q => r_call_dict_copyI xs H Q
theorem call_dict_copy : CallR X (.type "dict") r_call_dict_copy := by
  intro pins s σ H xs us Q I r h
  obtain ⟨a, kvs, rfl, ha, q⟩ := h
  obtain ⟨u, rfl, ru⟩ := vals1 r
  cases ru
  exact d_copyOf I ha fun p s' hp I' => ⟨.ref p, _, I', rfl, q p hp⟩
inductive r_call_lenRI (xs : List V) (H : Hp) (Q : VK) : Prop
  | mk (a : _) (kvs : _) (h0_ : xs = [V.ref a]) (h1_ : Rd H a (.dK kvs)) (h2_ : Q (.int kvs.length) H) : r_call_lenRI xs H Q
end
theorem lt_tri : ∀ a b : List Nat, ltCps a b = false → ltCps b a = false → a = b
  | [], [], _, _ => rfl
  | [], y :: t, h, _ => by simp [ltCps] at h
  | x :: r, [], _, h => by simp [ltCps] at h
  | x :: r, y :: t, h1, h2 => by
    simp only [ltCps, Bool.or_eq_false_iff, decide_eq_false_iff_not, Bool.and_eq_false_iff] at h1 h2
    have e : x = y := by omega
    subst e
    simp at h1 h2
    rw [lt_tri r t h1 h2]
theorem lt_tr : ∀ a b c : List Nat, ltCps a b = true → ltCps b c = true → ltCps a c = true
  | [], [], c, h, _ => by simp [ltCps] at h
  | [], y :: t, [], _, h => by simp [ltCps] at h
  | [], y :: t, z :: u, _, _ => by simp [ltCps]
  | x :: r, [], c, h, _ => by simp [ltCps] at h
  | x :: r, y :: t, [], _, h => by simp [ltCps] at h
  | x :: r, y :: t, z :: u, h1, h2 => by
    simp only [ltCps, Bool.or_eq_true, decide_eq_true_eq, Bool.and_eq_true, beq_iff_eq] at h1 h2 ⊢
    rcases h1 with h1 | ⟨h1, h1'⟩ <;> rcases h2 with h2 | ⟨h2, h2'⟩
    · left; omega
    · left; omega
    · left; omega
    · right; exact ⟨by omega, lt_tr r t u h1' h2'⟩
theorem le_tr (a b c : List Nat) (h1 : ltCps b a = false) (h2 : ltCps c b = false) : ltCps c a = false := by
  cases e : ltCps c a with
  | false => rfl
  | true =>
    cases e2 : ltCps a b with
    | true => rw [lt_tr c a b e e2] at h2; cases h2
    | false => rw [lt_tri a b e2 h1] at e; rw [e] at h2; cases h2
theorem sorted_pw : ∀ (p : Str) (l : List Str), risingS p l = true → (∀ x ∈ l, ltCps x.cps.toList p.cps.toList = false) ∧ l.Pairwise fun a b => ltCps b.cps.toList a.cps.toList = false
  | _, [], _ => ⟨fun x hx => (nomatch hx), .nil⟩
  | p, y :: r, h => by
    simp only [risingS, Bool.and_eq_true, Bool.not_eq_true'] at h
    obtain ⟨h1, h2⟩ := sorted_pw y r h.2
    refine ⟨fun x hx => ?_, .cons h1 h2⟩
    rcases List.mem_cons.mp hx with rfl | hx
    · exact h.1
    · exact le_tr _ _ _ h.1 (h1 x hx)
theorem sortedS_pw {l : List Str} (h : sortedS l = true) : l.Pairwise fun a b => ltCps b.cps.toList a.cps.toList = false := by
  cases l with
  | nil => exact .nil
  | cons x r => obtain ⟨h1, h2⟩ := sorted_pw x r h; exact .cons h1 h2
theorem str_ext {x y : Str} (h : x.cps.toList = y.cps.toList) : x = y := by
  cases x; cases y
  simp only at h
  congr 1
  exact Array.toList_inj.mp h
theorem sorted_one : ∀ {a b : List Str}, (a.Pairwise fun a b => ltCps b.cps.toList a.cps.toList = false) → (b.Pairwise fun a b => ltCps b.cps.toList a.cps.toList = false) → a.Perm b → a = b
  | [], b, _, _, p => (List.nil_perm.mp p).symm
  | x :: r, [], _, _, p => by have := p.length_eq; simp at this
  | x :: r, y :: t, h1, h2, p => by
    obtain ⟨a1, a2⟩ := List.pairwise_cons.mp h1
    obtain ⟨b1, b2⟩ := List.pairwise_cons.mp h2
    have e : x = y := by
      have hx : x ∈ y :: t := p.mem_iff.mp List.mem_cons_self
      have hy : y ∈ x :: r := p.mem_iff.mpr List.mem_cons_self
      rcases List.mem_cons.mp hx with hx | hx
      · exact hx
      · rcases List.mem_cons.mp hy with hy | hy
        · exact hy.symm
        · exact str_ext (lt_tri _ _ (b1 x hx) (a1 y hy))
    subst e
    rw [sorted_one a2 b2 (List.Perm.cons_inv p)]
theorem sortedS_one {a b : List Str} (h1 : sortedS a = true) (h2 : sortedS b = true) (p : a.Perm b) : a = b := sorted_one (sortedS_pw h1) (sortedS_pw h2) p
end L2

set_option Elab.async false
set_option linter.all false
set_option maxRecDepth 100000
set_option maxHeartbeats 4000000
namespace L2
open PySem PySem.Spec PyProof.Rows
namespace Dc
mutual
def deep : Dc → Nat
  | leaf _ => 1
  | row _ xs => 1 + deepL xs
  | tab _ _ xs => 1 + deepL xs
def deepL : List Dc → Nat
  | [] => 0
  | x :: r => max (deep x) (deepL r)
end
theorem deep_pos (d : Dc) : 1 ≤ d.deep := by cases d <;> simp only [deep] <;> omega
theorem deepL_mem : ∀ {xs : List Dc} {x : Dc}, x ∈ xs → x.deep ≤ deepL xs
  | [], _, h => nomatch h
  | y :: r, x, h => by
    simp only [deepL]
    rcases List.mem_cons.mp h with rfl | h
    · omega
    · have := deepL_mem h
      omega
mutual
theorem deep_size : ∀ d : Dc, d.deep ≤ d.size
  | leaf _ => Nat.le_refl _
  | row a xs => by simp only [deep, size]; have := deepL_size xs; omega
  | tab a ks xs => by simp only [deep, size]; have := deepL_size xs; omega
theorem deepL_size : ∀ xs : List Dc, deepL xs ≤ sizeL xs
  | [] => Nat.le_refl _
  | x :: r => by simp only [deepL, sizeL]; have := deep_size x; have := deepL_size r; omega
end
mutual
def parts : Dc → List Dc
  | leaf v => [leaf v]
  | row a xs => row a xs :: partsL xs
  | tab a ks xs => tab a ks xs :: partsL xs
def partsL : List Dc → List Dc
  | [] => []
  | x :: r => parts x ++ partsL r
end
mutual
theorem parts_length : ∀ d : Dc, d.parts.length = d.size
  | leaf _ => rfl
  | row a xs => by simp only [parts, size, List.length_cons, partsL_length xs]; omega
  | tab a ks xs => by simp only [parts, size, List.length_cons, partsL_length xs]; omega
theorem partsL_length : ∀ xs : List Dc, (partsL xs).length = sizeL xs
  | [] => rfl
  | x :: r => by simp only [partsL, sizeL, List.length_append, parts_length x, partsL_length r]
end
structure PartOf (e d : Dc) : Prop where
  at_ : ∀ {H : Hp}, d.At H → e.At H
  ok : d.ok → e.ok
  slim : d.slim → e.slim
  deep : e.deep ≤ d.deep
  size : e.size ≤ d.size
  addrs : ∀ a ∈ e.addrs, a ∈ d.addrs
theorem PartOf.refl (d : Dc) : PartOf d d := ⟨id, id, id, Nat.le_refl _, Nat.le_refl _, fun _ h => h⟩
theorem PartOf.trans {e d c : Dc} (p : PartOf e d) (q : PartOf d c) : PartOf e c := ⟨fun h => p.at_ (q.at_ h), fun h => p.ok (q.ok h), fun h => p.slim (q.slim h), Nat.le_trans p.deep q.deep, Nat.le_trans p.size q.size, fun a h => q.addrs a (p.addrs a h)⟩
theorem PartOf.row {x : Dc} {a : Addr} {xs : List Dc} (h : x ∈ xs) : PartOf x (row a xs) :=
  ⟨fun q => by simp only [At] at q; exact AtL_mem q.2 x h, fun q => by simp only [Dc.ok] at q; exact okL_iff.mp q x h, fun q => by simp only [Dc.slim] at q; exact slimL_mem q x h,
    by simp only [Dc.deep]; have := deepL_mem h; omega, by simp only [Dc.size]; have := sizeL_mem h; omega, fun c hc => by simp only [Dc.addrs]; exact List.mem_cons_of_mem _ (addrsL_mem h hc)⟩
theorem PartOf.tab {x : Dc} {a : Addr} {ks : List Str} {xs : List Dc} (h : x ∈ xs) : PartOf x (tab a ks xs) :=
  ⟨fun q => by simp only [At] at q; exact AtL_mem q.2.2.2 x h, fun q => by simp only [Dc.ok] at q; exact okL_iff.mp q.2 x h, fun q => by simp only [Dc.slim] at q; exact slimL_mem q.2 x h,
    by simp only [Dc.deep]; have := deepL_mem h; omega, by simp only [Dc.size]; have := sizeL_mem h; omega, fun c hc => by simp only [Dc.addrs]; exact List.mem_cons_of_mem _ (addrsL_mem h hc)⟩
mutual
theorem part_of : ∀ (d : Dc) (e : Dc), e ∈ d.parts → PartOf e d
  | leaf v, e, h => by simp only [parts, List.mem_singleton] at h; subst h; exact .refl _
  | row a xs, e, h => by
    simp only [parts, List.mem_cons] at h
    rcases h with rfl | h
    · exact .refl _
    · obtain ⟨x, hx, hp⟩ := partL_of xs e h
      exact hp.trans (.row hx)
  | tab a ks xs, e, h => by
    simp only [parts, List.mem_cons] at h
    rcases h with rfl | h
    · exact .refl _
    · obtain ⟨x, hx, hp⟩ := partL_of xs e h
      exact hp.trans (.tab hx)
theorem partL_of : ∀ (xs : List Dc) (e : Dc), e ∈ partsL xs → ∃ x ∈ xs, PartOf e x
  | [], _, h => by simp [partsL] at h
  | x :: r, e, h => by
    simp only [partsL, List.mem_append] at h
    rcases h with h | h
    · exact ⟨x, List.mem_cons_self, part_of x e h⟩
    · obtain ⟨y, hy, he⟩ := partL_of r e h
      exact ⟨y, List.mem_cons_of_mem _ hy, he⟩
end
mutual
def like : Dc → Dc → Prop
  | leaf v, leaf w => v = w
  | row _ xs, row _ ys => likeL xs ys
  | tab _ ks xs, tab _ ls ys => ks = ls ∧ likeL xs ys
  | _, _ => False
def likeL : List Dc → List Dc → Prop
  | [], [] => True
  | x :: r, y :: t => like x y ∧ likeL r t
  | _, _ => False
end
theorem likeL_length : ∀ {xs ys : List Dc}, likeL xs ys → xs.length = ys.length
  | [], [], _ => rfl
  | [], _ :: _, h => by simp [likeL] at h
  | _ :: _, [], h => by simp [likeL] at h
  | x :: r, y :: t, h => by simp only [likeL] at h; simp only [List.length_cons, likeL_length h.2]
theorem likeL_get : ∀ {xs ys : List Dc}, likeL xs ys → ∀ (i : Nat) x, xs[i]? = some x → ∃ y, ys[i]? = some y ∧ like x y
  | [], _, _, i, x, e => by simp at e
  | x :: r, [], h, _, _, _ => by simp [likeL] at h
  | x :: r, y :: t, h, 0, z, e => by simp only [likeL] at h; simp at e; subst e; exact ⟨y, rfl, h.1⟩
  | x :: r, y :: t, h, i + 1, z, e => by simp only [likeL] at h; simp at e; obtain ⟨w, h1, h2⟩ := likeL_get h.2 i z e; exact ⟨w, by simpa using h1, h2⟩
theorem likeL_append {xs xs' ys ys' : List Dc} : likeL xs ys → likeL xs' ys' → likeL (xs ++ xs') (ys ++ ys') := by
  induction xs generalizing ys with
  | nil =>
    intro h h'
    cases ys with
    | nil => exact h'
    | cons y t => simp [likeL] at h
  | cons x r ih =>
    intro h h'
    cases ys with
    | nil => simp [likeL] at h
    | cons y t =>
      simp only [likeL, List.cons_append] at h ⊢
      exact ⟨h.1, ih h.2 h'⟩
mutual
theorem like_refl : ∀ d : Dc, like d d
  | leaf _ => by simp [like]
  | row _ xs => by simp only [like]; exact likeL_refl xs
  | tab _ _ xs => by simp only [like]; exact ⟨trivial, likeL_refl xs⟩
theorem likeL_refl : ∀ xs : List Dc, likeL xs xs
  | [] => by simp [likeL]
  | x :: r => by simp only [likeL]; exact ⟨like_refl x, likeL_refl r⟩
end
mutual
theorem like_symm : ∀ d e : Dc, like d e → like e d
  | leaf v, e, h => by cases e <;> simp_all [like]
  | row a xs, e, h => by
    cases e with
    | row b ys => simp only [like] at h ⊢; exact likeL_symm xs ys h
    | _ => simp [like] at h
  | tab a ks xs, e, h => by
    cases e with
    | tab b ls ys => simp only [like] at h ⊢; exact ⟨h.1.symm, likeL_symm xs ys h.2⟩
    | _ => simp [like] at h
theorem likeL_symm : ∀ xs ys : List Dc, likeL xs ys → likeL ys xs
  | [], [], _ => by simp [likeL]
  | [], _ :: _, h => by simp [likeL] at h
  | _ :: _, [], h => by simp [likeL] at h
  | x :: r, y :: t, h => by simp only [likeL] at h ⊢; exact ⟨like_symm x y h.1, likeL_symm r t h.2⟩
end
mutual
theorem like_ok : ∀ d e : Dc, like d e → d.ok → e.ok
  | leaf v, e, h, k => by cases e <;> simp_all [like, ok]
  | row a xs, e, h, k => by
    cases e with
    | row b ys => simp only [like] at h; simp only [ok] at k ⊢; exact likeL_ok xs ys h k
    | _ => simp [like] at h
  | tab a ks xs, e, h, k => by
    cases e with
    | tab b ls ys => simp only [like] at h; simp only [ok] at k ⊢; exact ⟨h.1 ▸ k.1, likeL_ok xs ys h.2 k.2⟩
    | _ => simp [like] at h
theorem likeL_ok : ∀ xs ys : List Dc, likeL xs ys → okL xs → okL ys
  | [], [], _, _ => by simp [okL]
  | [], _ :: _, h, _ => by simp [likeL] at h
  | _ :: _, [], h, _ => by simp [likeL] at h
  | x :: r, y :: t, h, k => by simp only [likeL] at h; simp only [okL] at k ⊢; exact ⟨like_ok x y h.1 k.1, likeL_ok r t h.2 k.2⟩
end
mutual
theorem like_size : ∀ d e : Dc, like d e → d.size = e.size
  | leaf v, e, h => by cases e <;> simp_all [like, size]
  | row a xs, e, h => by
    cases e with
    | row b ys => simp only [like] at h; simp only [size, likeL_size xs ys h]
    | _ => simp [like] at h
  | tab a ks xs, e, h => by
    cases e with
    | tab b ls ys => simp only [like] at h; simp only [size, likeL_size xs ys h.2]
    | _ => simp [like] at h
theorem likeL_size : ∀ xs ys : List Dc, likeL xs ys → sizeL xs = sizeL ys
  | [], [], _ => rfl
  | [], _ :: _, h => by simp [likeL] at h
  | _ :: _, [], h => by simp [likeL] at h
  | x :: r, y :: t, h => by simp only [likeL] at h; simp only [sizeL, like_size x y h.1, likeL_size r t h.2]
end
def kids : Dc → List Dc
  | leaf _ => []
  | row _ xs => xs
  | tab _ _ xs => xs
theorem sizeL_perm {xs ys : List Dc} (p : xs.Perm ys) : sizeL xs = sizeL ys := by
  induction p with
  | nil => rfl
  | cons x _ ih => simp only [sizeL, ih]
  | swap x y l => simp only [sizeL]; omega
  | trans _ _ i1 i2 => exact i1.trans i2
def StepsOf : Dc → List V → Prop
  | leaf _, l => l = []
  | row _ xs, l => l = (List.range xs.length).map fun (i : Nat) => V.int (i : Int)
  | tab _ ks _, l => ∃ ss : List Str, l = ss.map V.str ∧ ss.Perm ks ∧ sortedS ss = true
end Dc
structure Fresh (H H' : Hp) (d : Dc) : Prop where
  same : Same H H'
  at_ : d.At H'
  nd : d.addrs.Nodup
  own : ∀ a ∈ d.addrs, ∀ o u, H' a ≠ some (.frz o u)
  new : ∀ a ∈ d.addrs, H a = none
theorem Fresh.up {H H1 H2 : Hp} {d : Dc} (D : Fresh H H1 d) (s : Same H1 H2) : Fresh H H2 d := ⟨D.same.trans s, Dc.at_same s D.at_, D.nd, fun a ha => frz_up (Dc.there D.at_ ha) (D.own a ha) (s a), D.new⟩
theorem while_W {c : TT} {tb : TS} {D : Ends} {σ : St} {H : Hp} (W : Nat → St → Hp → Prop) (m0 : Nat) (h0 : W m0 σ H)
    (hs : ∀ m σ H, W m σ H → c σ H fun b H1 => if b = true then tb { D with nx := fun σ' H' => ∃ m', m' < m ∧ W m' σ' H', ct := fun σ' H' => ∃ m', m' < m ∧ W m' σ' H', bk := D.nx } σ H1 else D.nx σ H1)
    (mono : ∀ σ H Q Q', (∀ b H1, Q b H1 → Q' b H1) → c σ H Q → c σ H Q') : tWhile c tb D σ H := by
  refine ⟨W, ⟨m0, h0⟩, fun m σ H p => ?_⟩
  refine mono σ H _ _ (fun b H1 q => ?_) (hs m σ H p)
  cases b with
  | true => exact ⟨_, fun σ' H' z => z, q⟩
  | false => exact q
inductive spCopyI (n : Nat) (vs : List V) (H : Hp) (Q : VK) (u3_ : XK) : Prop
  | mk (d : Dc) (x0 : vs = [d.val]) (x1 : d.At H) (x2 : d.deep ≤ n) (x3 : d.size ≤ 900) (x4 : ∀ (d' : Dc) (H' : Hp), Fresh H H' d' → Dc.like d d' → Q d'.val H') : spCopyI n vs H Q u3_
def spCopy (n : Nat) : Sp := fun vs H Q u3_ => spCopyI n vs H Q u3_
inductive spAlikeI (n : Nat) (vs : List V) (H : Hp) (Q : VK) (u3_ : XK) : Prop
  | mk (d : Dc) (e : Dc) (x0 : vs = [d.val, e.val]) (x1 : d.At H) (x2 : e.At H) (x3 : Dc.like d e) (x4 : d.slim) (x5 : d.deep ≤ n) (x6 : d.size ≤ 900) (x7 : ∀ H', Same H H' → Q (.bl true) H') : spAlikeI n vs H Q u3_
inductive spPartsI (n : Nat) (vs : List V) (H : Hp) (Q : VK) (u3_ : XK) : Prop
  | mk (d : Dc) (x0 : vs = [d.val]) (x1 : d.At H) (x2 : d.deep ≤ n) (x3 : d.size ≤ 900) (x4 : ∀ (p : Addr) (H' : Hp), Same H H' → H p = none → H' p = some (.lst (d.parts.map Dc.val)) → Q (.ref p) H') : spPartsI n vs H Q u3_
inductive spStepsI (vs : List V) (H : Hp) (Q : VK) (u3_ : XK) : Prop
  | mk (d : Dc) (x0 : vs = [d.val]) (x1 : d.At H) (x2 : d.slim) (x3 : d.size ≤ 900) (x4 : ∀ (p : Addr) (l : List V) (H' : Hp), Same H H' → H p = none → H' p = some (.lst l) → d.StepsOf l → Q (.ref p) H') : spStepsI  vs H Q u3_
def spSteps : Sp := fun vs H Q u3_ => spStepsI  vs H Q u3_
inductive spInnerI (vs : List V) (H : Hp) (Q : VK) (u3_ : XK) : Prop
  | mk (d : Dc) (x0 : vs = [d.val]) (x1 : d.At H) (x2 : d.slim) (x3 : d.size ≤ 900) (x4 : ∀ (p : Addr) (es : List Dc) (H' : Hp), Same H H' → H p = none → H' p = some (.lst (es.map Dc.val)) → es.Perm d.kids → Q (.ref p) H') : spInnerI  vs H Q u3_
inductive spSizeOfI (vs : List V) (H : Hp) (Q : VK) (u3_ : XK) : Prop
  | mk (d : Dc) (x0 : vs = [d.val]) (x1 : d.At H) (x2 : d.slim) (x3 : d.size ≤ 900) (x4 : ∀ H', Same H H' → Q (.int (d.size : Int)) H') : spSizeOfI  vs H Q u3_
inductive spIsDocI (vs : List V) (H : Hp) (Q : VK) (u3_ : XK) : Prop
  | mk (d : Dc) (x0 : vs = [d.val]) (x1 : d.At H) (x2 : d.ok) (x3 : d.slim) (x4 : d.size ≤ 900) (x5 : ∀ H', Same H H' → Q (.bl true) H') : spIsDocI  vs H Q u3_
def Dc.kindS : Dc → Str
  | .leaf (.str _) => "text"
  | .leaf _ => "number"
  | .row _ _ => "row"
  | .tab _ _ _ => "table"
inductive spKindI (vs : List V) (H : Hp) (Q : VK) (u3_ : XK) : Prop
  | mk (d : Dc) (x0 : vs = [d.val]) (x1 : d.At H) (x2 : Q (.str d.kindS) H) : spKindI  vs H Q u3_
inductive spPathsI (n : Nat) (vs : List V) (H : Hp) (Q : VK) (u3_ : XK) : Prop
  | mk (d : Dc) (t : Addr) (xs : List V) (x0 : vs = [d.val, .ref t]) (x1 : d.At H) (x2 : d.ok) (x3 : d.slim) (x4 : d.deep ≤ n) (x5 : H t = some (.tup xs)) (x6 : xs.length + d.size ≤ 1000) (x7 : ∀ (p : Addr) (ps : List Addr) (H' : Hp), Same H H' → H p = none → H' p = some (.lst (ps.map V.ref)) → ps.length = d.size → (∀ q ∈ ps, ∃ zs, H' q = some (.tup (xs ++ zs)) ∧ (d.sub zs).isSome = true) → Q (.ref p) H') : spPathsI n vs H Q u3_
def spPaths (n : Nat) : Sp := fun vs H Q u3_ => spPathsI n vs H Q u3_
end L2

set_option Elab.async false
set_option linter.all false
set_option maxRecDepth 100000
set_option maxHeartbeats 4000000
namespace L2
open PySem PySem.Spec PyProof.Rows
def back (a : Addr) (H H' : Hp) : Hp := fun b => if b = a then H a else H' b
theorem back_ne {a b : Addr} {H H' : Hp} (h : b ≠ a) : back a H H' b = H' b := if_neg h
theorem back_at {a : Addr} {H H' : Hp} : back a H H' a = H a := if_pos rfl
theorem back_upd {a : Addr} {H H' : Hp} {u : HO} (e : H a = some u) : back a H H' = upd H' a u := by
  funext b
  unfold back upd
  split
  · exact e
  · rfl
theorem back_same {a : Addr} {H H' : Hp} (e : H a = H' a) : back a H H' = H' := by
  funext b
  unfold back
  split
  · rename_i h; rw [h, e]
  · rfl
structure Frz (a : Addr) (o : Obj) (kvs : List (Key × V)) (H Hf : Hp) : Prop where
  at_ : Hf a = some (.frz o (.dK kvs))
  rd : SameR H Hf
  ne : ∀ b, b ≠ a → Hf b = H b
  rda : Rd H a (.dK kvs)
theorem Frz.free {a b : Addr} {o : Obj} {kvs : List (Key × V)} {H Hf : Hp} (F : Frz a o kvs H Hf) (h : Hf b = none) : H b = none ∧ b ≠ a := by
  have hb : b ≠ a := fun z => by rw [z, F.at_] at h; cases h
  rw [F.ne b hb] at h
  exact ⟨h, hb⟩
theorem Frz.back {a : Addr} {o : Obj} {kvs : List (Key × V)} {H Hf Hi : Hp} (F : Frz a o kvs H Hf) (s : Same Hf Hi) : Same H (back a H Hi) := fun b u e => by
  by_cases hb : b = a
  · subst hb; rw [back_at]; exact e
  · rw [back_ne hb]
    exact s b u (by rw [F.ne b hb]; exact e)
inductive tWalkEI (t : TE) (σ : St) (H : Hp) (Q : VK) : Prop
  | mk (a : _) (kvs : _) (x0 : Rd H a (.dK kvs)) (x1 : ∀ o Hf, Frz a o kvs H Hf → t σ Hf fun v H' => H' a = some (.frz o (.dK kvs)) ∧ Q v (back a H H')) : tWalkEI t σ H Q
def tWalkE (t : TE) : TE := fun σ H Q => tWalkEI t σ H Q
inductive tWalkSI (t : TS) (D : Ends) (σ : St) (H : Hp) : Prop
  | mk (a : _) (kvs : _) (x0 : Rd H a (.dK kvs)) (x1 : ∀ o Hf, Frz a o kvs H Hf → t ⟨fun σ H' => H' a = some (.frz o (.dK kvs)) ∧ D.nx σ (back a H H'), fun v H' => H' a = some (.frz o (.dK kvs)) ∧ D.rt v (back a H H'), fun σ H' => H' a = some (.frz o (.dK kvs)) ∧ D.bk σ (back a H H'), fun σ H' => H' a = some (.frz o (.dK kvs)) ∧ D.ct σ (back a H H')⟩ σ Hf) : tWalkSI t D σ H
def tWalkS (t : TS) : TS := fun D σ H => tWalkSI t D σ H
theorem Frz.of {a : Addr} {o : Obj} {kvs : List (Key × V)} {H : Hp} (e : H a = some (.dK kvs)) : Frz a o kvs H (upd H a (.frz o (.dK kvs))) := ⟨upd_same, SameR.frz e, fun b hb => upd_ne hb, .inl e⟩
theorem Frz.same {a : Addr} {o : Obj} {kvs : List (Key × V)} {H : Hp} (e : H a = some (.frz o (.dK kvs))) : Frz a o kvs H H := ⟨e, fun _ _ r => r, fun _ _ => rfl, .inr ⟨o, e⟩⟩
section
variable {X : Cx}
theorem pe_walk {e : Expr} {t : TE} (h : PE X e t) : PE X e (tWalkE t) := by
  rintro pins s σ H Q I ⟨a, kvs, r, hq⟩
  rcases r with r | ⟨o, r⟩
  · refine pe_frz h pins s σ H Q I ⟨a, kvs, r, fun o => ?_⟩
    have := hq o _ (Frz.of r)
    have e : (fun v H' => H' a = some (.frz o (.dK kvs)) ∧ Q v (back a H H')) = fun v => Thaw a o kvs (Q v) := by
      funext v H'
      unfold Thaw
      rw [back_upd r]
    rw [e] at this
    exact this
  · refine thn (h pins s σ H _ I (hq o H (Frz.same r))) fun u s1 ⟨v, H1, I1, r1, e1, q1⟩ => ⟨v, H1, I1, r1, ?_⟩
    rw [back_same (r.trans e1.symm)] at q1
    exact q1
theorem ps_walk {st : Stmt} {t : TS} (h : PS X st t) : PS X st (tWalkS t) := by
  rintro pins s σ H D I ⟨a, kvs, r, hq⟩
  rcases r with r | ⟨o, r⟩
  · refine ps_frz h pins s σ H D I ⟨a, kvs, r, fun o => ?_⟩
    have := hq o _ (Frz.of r)
    have e : ∀ k : Hp → Prop, (fun H' => H' a = some (.frz o (.dK kvs)) ∧ k (back a H H')) = Thaw a o kvs k := fun k => by
      funext H'
      unfold Thaw
      rw [back_upd r]
    simp only [← e]
    exact this
  · refine thn (h pins s σ H _ I (hq o H (Frz.same r))) fun f s1 h1 => ?_
    cases f with
    | next => obtain ⟨σ1, H1, I1, e1, q1⟩ := h1; rw [back_same (r.trans e1.symm)] at q1; exact ⟨σ1, _, I1, q1⟩
    | brk => obtain ⟨σ1, H1, I1, e1, q1⟩ := h1; rw [back_same (r.trans e1.symm)] at q1; exact ⟨σ1, _, I1, q1⟩
    | cont => obtain ⟨σ1, H1, I1, e1, q1⟩ := h1; rw [back_same (r.trans e1.symm)] at q1; exact ⟨σ1, _, I1, q1⟩
    | ret u => obtain ⟨v, σ1, H1, I1, r1, e1, q1⟩ := h1; rw [back_same (r.trans e1.symm)] at q1; exact ⟨v, σ1, _, I1, r1, q1⟩
end
theorem comp_by {J : It} {te : TE} {fs : List Nat} {σ : St} {H : Hp} {Q : VK} (n : Nat) (item : Nat → V) (P : Addr → Nat → Hp → Prop) (h0 : ∀ D, H D = none → P D 0 (upd H D (.lst [])))
    (hgo : ∀ D i H2, i < n → P D i H2 → J.go i H2) (hy : ∀ D i H2 v H', i < n → P D i H2 → J.yld i H2 v H' → v = item i ∧ H' = H2) (hst : ∀ D H2, P D n H2 → J.stop n H2)
    (he : ∀ D i H2, H D = none → i < n → P D i H2 → te (some (item i) :: pickS σ fs) H2 fun y H5 => ∃ ys, H5 D = some (.lst ys) ∧ ys.length < sizeLine ∧ P D (i + 1) (upd H5 D (.lst (ys ++ [y]))))
    (hQ : ∀ D H2, H D = none → P D n H2 → Q (.ref D) H2) : CompRd J tYes te fs σ H Q := by
  intro D hD
  refine ⟨fun i m H2 => m = n - i ∧ i ≤ n ∧ P D i H2, ⟨n, rfl, Nat.zero_le _, h0 D hD⟩, ?_⟩
  rintro i m H2 ⟨rfl, hi, p⟩
  by_cases hlt : i < n
  · refine .inr ⟨hgo D i H2 hlt p, fun v H3 y => ?_⟩
    obtain ⟨rfl, rfl⟩ := hy D i H2 v H3 hlt p y
    unfold tYes
    dsimp only
    rw [if_pos rfl]
    have key := he D i H3 hD hlt p
    have e : (fun (y : V) (H5 : Hp) => ∃ ys, H5 D = some (.lst ys) ∧ ys.length < sizeLine ∧ ∃ m', m' < n - i ∧ m' = n - (i + 1) ∧ i + 1 ≤ n ∧ P D (i + 1) (upd H5 D (.lst (ys ++ [y])))) = fun y H5 => ∃ ys, H5 D = some (.lst ys) ∧ ys.length < sizeLine ∧ P D (i + 1) (upd H5 D (.lst (ys ++ [y]))) := by
      funext y H5
      refine propext ⟨fun ⟨ys, a, b, m', _, _, _, c⟩ => ⟨ys, a, b, c⟩, fun ⟨ys, a, b, c⟩ => ⟨ys, a, b, n - (i + 1), by omega, rfl, hlt, c⟩⟩
    rw [← e] at key
    exact key
  · have e : i = n := by omega
    subst e
    exact .inl ⟨hst D H2 p, hQ D H2 hD p⟩
structure FreshL (H H' : Hp) (es : List Dc) : Prop where
  same : Same H H'
  at_ : Dc.AtL H' es
  nd : (Dc.addrsL es).Nodup
  own : ∀ a ∈ Dc.addrsL es, ∀ o u, H' a ≠ some (.frz o u)
  new : ∀ a ∈ Dc.addrsL es, H a = none
theorem FreshL.nil {H H' : Hp} (s : Same H H') : FreshL H H' [] := ⟨s, trivial, .nil, fun a h => (nomatch h), fun a h => (nomatch h)⟩
theorem Dc.thereL {H : Hp} {es : List Dc} {b : Addr} (h : Dc.AtL H es) (hb : b ∈ Dc.addrsL es) : H b ≠ none := by
  induction es with
  | nil => cases hb
  | cons x r ih =>
    simp only [Dc.AtL] at h
    simp only [Dc.addrsL, List.mem_append] at hb
    rcases hb with hb | hb
    · exact Dc.there h.1 hb
    · exact ih h.2 hb
theorem FreshL.frame {H H1 H2 : Hp} {es : List Dc} (F : FreshL H H1 es) (s : Same H H2) (f : ∀ a ∈ Dc.addrsL es, ∀ o, H1 a = some o → H2 a = some o) : FreshL H H2 es :=
  ⟨s, Dc.atL_frame es f F.at_, F.nd, fun a ha => frz_up (Dc.thereL F.at_ ha) (F.own a ha) (f a ha), F.new⟩
theorem FreshL.up {H H1 H2 : Hp} {es : List Dc} (F : FreshL H H1 es) (s : Same H1 H2) : FreshL H H2 es := F.frame (F.same.trans s) fun a _ => s a
theorem FreshL.snoc {H H2 H3 : Hp} {es : List Dc} {d : Dc} (F : FreshL H H2 es) (f : Fresh H2 H3 d) : FreshL H H3 (es ++ [d]) := by
  have F3 := F.up f.same
  have ea : Dc.addrsL (es ++ [d]) = Dc.addrsL es ++ d.addrs := by rw [Dc.addrsL_append]; simp [Dc.addrsL]
  refine ⟨F3.same, (Dc.AtL_append _ _).mpr ⟨F3.at_, by simp only [Dc.AtL]; exact ⟨f.at_, trivial⟩⟩, ?_, fun a ha => ?_, fun a ha => ?_⟩
  · rw [ea]
    refine List.nodup_append.mpr ⟨F.nd, f.nd, fun a ha b hb e => ?_⟩
    subst e
    exact Dc.thereL F.at_ ha (f.new a hb)
  · rw [ea] at ha
    rcases List.mem_append.mp ha with ha | ha
    · exact F3.own a ha
    · exact f.own a ha
  · rw [ea] at ha
    rcases List.mem_append.mp ha with ha | ha
    · exact F.new a ha
    · exact F.same.free (f.new a ha)
theorem FreshL.row {H H' : Hp} {es : List Dc} {D : Addr} (F : FreshL H H' es) (hD : H D = none) (nD : D ∉ Dc.addrsL es) (e : H' D = some (.lst (es.map Dc.val))) : Fresh H H' (.row D es) := by
  refine ⟨F.same, by simp only [Dc.At]; exact ⟨.inl e, F.at_⟩, ?_, fun a ha => ?_, fun a ha => ?_⟩
  · simp only [Dc.addrs]; exact List.nodup_cons.mpr ⟨nD, F.nd⟩
  · simp only [Dc.addrs, List.mem_cons] at ha
    rcases ha with rfl | ha
    · intro o u z; rw [e] at z; cases z
    · exact F.own a ha
  · simp only [Dc.addrs, List.mem_cons] at ha
    rcases ha with rfl | ha
    · exact hD
    · exact F.new a ha
theorem FreshL.tab {H H' : Hp} {es : List Dc} {ks : List Str} {D : Addr} (F : FreshL H H' es) (hD : H D = none) (nD : D ∉ Dc.addrsL es) (l : ks.length = es.length) (nk : ks.Nodup) (e : H' D = some (.dK (Dc.kvs ks es))) : Fresh H H' (.tab D ks es) := by
  refine ⟨F.same, by simp only [Dc.At]; exact ⟨.inl e, l, nk, F.at_⟩, ?_, fun a ha => ?_, fun a ha => ?_⟩
  · simp only [Dc.addrs]; exact List.nodup_cons.mpr ⟨nD, F.nd⟩
  · simp only [Dc.addrs, List.mem_cons] at ha
    rcases ha with rfl | ha
    · intro o u z; rw [e] at z; cases z
    · exact F.own a ha
  · simp only [Dc.addrs, List.mem_cons] at ha
    rcases ha with rfl | ha
    · exact hD
    · exact F.new a ha
theorem mergeK_nodup : ∀ (more kvs : List (Key × V)), ((kvs ++ more).map (·.1)).Nodup → mergeK kvs more = kvs ++ more
  | [], kvs, _ => by simp [mergeK]
  | p :: r, kvs, h => by
    have hk : valV kvs p.1 = none := by
      cases e : valV kvs p.1 with
      | none => rfl
      | some v =>
        have := valV_in e
        rw [List.map_append, List.map_cons] at h
        obtain ⟨_, _, h3⟩ := List.nodup_append.mp h
        exact absurd rfl (h3 p.1 this p.1 List.mem_cons_self)
    show mergeK (putK kvs p.1 p.2) r = _
    rw [putK_new p.2 hk, mergeK_nodup r (kvs ++ [(p.1, p.2)]) (by simpa using h)]
    simp
namespace Dc
theorem zip_at {nm : Str} {x : Dc} : ∀ (ks : List Str) (xs : List Dc) (i : Nat), ks.Nodup → ks[i]? = some nm → xs[i]? = some x → (ks.zip xs).lookup nm = some x
  | [], _, _, _, h, _ => by simp at h
  | y :: r, [], _, _, _, h => by simp at h
  | y :: r, z :: t, 0, _, h1, h2 => by simp at h1 h2; subst h1 h2; simp
  | y :: r, z :: t, i + 1, nd, h1, h2 => by
    obtain ⟨n1, n2⟩ := List.nodup_cons.mp nd
    have h1' : r[i]? = some nm := by simpa using h1
    have ne : nm ≠ y := fun z => n1 (z ▸ List.mem_of_getElem? h1')
    have : (nm == y) = false := by simpa using ne
    simp only [List.zip_cons_cons, List.lookup_cons, this]
    exact zip_at r t i n2 h1' (by simpa using h2)
theorem kvs_len {ks : List Str} {xs : List Dc} (h : ks.length = xs.length) : (kvs ks xs).length = xs.length := by
  have := congrArg List.length (kvs_keys (ks := ks) (xs := xs) h)
  rw [List.length_map, List.length_map] at this
  rw [this, h]
theorem kvs_at {ks : List Str} {xs : List Dc} (h : ks.length = xs.length) (nd : ks.Nodup) {i : Nat} {k : Key} {v : V} (e : (kvs ks xs)[i]? = some (k, v)) :
    ∃ nm x, ks[i]? = some nm ∧ xs[i]? = some x ∧ k = Sum.inr nm ∧ v = x.val ∧ (ks.zip xs).lookup nm = some x ∧ valV (kvs ks xs) (Sum.inr nm) = some x.val := by
  have hi : i < xs.length := by rw [← kvs_len h]; exact (List.getElem?_eq_some_iff.mp e).1
  obtain ⟨x, hx⟩ : ∃ x, xs[i]? = some x := ⟨_, List.getElem?_eq_getElem hi⟩
  obtain ⟨nm, hnm⟩ : ∃ nm, ks[i]? = some nm := ⟨_, List.getElem?_eq_getElem (by rw [h]; exact hi)⟩
  have lk := zip_at ks xs i nd hnm hx
  have e' := e
  unfold kvs at e'
  rw [List.getElem?_map] at e'
  have ez : (ks.zip (xs.map val))[i]? = some (nm, x.val) := by
    rw [List.getElem?_zip_eq_some]
    exact ⟨hnm, by rw [List.getElem?_map, hx]; rfl⟩
  rw [ez] at e'
  have e' := Option.some.inj e'
  exact ⟨nm, x, hnm, hx, (congrArg Prod.fst e').symm, (congrArg Prod.snd e').symm, lk, by rw [valV_kvs h, lk]; rfl⟩
end Dc
end L2

set_option Elab.async false
set_option linter.all false
set_option maxRecDepth 100000
set_option maxHeartbeats 4000000
namespace L2
open PySem PySem.Spec PyProof.Rows
def wholeV : V → Bool
  | .int _ => true
  | _ => false
def nameV : V → Bool
  | .str x => nameB x
  | _ => false
def Short (v : V) : Prop := ∀ x, v = .str x → x.length ≤ 1000
inductive spWholeI (vs : List V) (H : Hp) (Q : VK) (u3_ : XK) : Prop
  | mk (v : _) (T : _) (x0 : vs = [v]) (x1 : TyN H v T) (x2 : Q (.bl (wholeV v)) H) : spWholeI  vs H Q u3_
inductive spLettersI (vs : List V) (H : Hp) (Q : VK) (u3_ : XK) : Prop
  | mk (x : Str) (x0 : vs = [.str x]) (x1 : x.length ≤ 1000) (x2 : ∀ H', Same H H' → Q (.bl ((sgn x).all isL)) H') : spLettersI  vs H Q u3_
inductive spNameI (vs : List V) (H : Hp) (Q : VK) (u3_ : XK) : Prop
  | mk (v : _) (T : _) (x0 : vs = [v]) (x1 : TyN H v T) (x2 : Short v) (x3 : ∀ H', Same H H' → Q (.bl (nameV v)) H') : spNameI  vs H Q u3_
inductive spSoundI (vs : List V) (H : Hp) (Q : VK) (u3_ : XK) : Prop
  | mk (d : Dc) (x0 : vs = [d.val]) (x1 : d.At H) (x2 : d.ok) (x3 : d.size ≤ 900) (x4 : ∀ H', Same H H' → Q (.bl true) H') : spSoundI  vs H Q u3_
end L2

set_option Elab.async false
set_option linter.all false
set_option maxRecDepth 100000
set_option maxHeartbeats 4000000
namespace L2
open PySem PySem.Spec PyProof.Rows
def OutC (H Hi : Hp) (c : V) : Dc → Prop
  | .leaf v => c = v ∧ Dc.Lf v
  | .row _ xs => ∃ a, c = .ref a ∧ Hi a = some (.lst (xs.map Dc.val)) ∧ H a = none
  | .tab _ ks xs => ∃ a, c = .ref a ∧ Hi a = some (.dK (Dc.kvs ks xs)) ∧ H a = none
def rootOf (p : V × Dc) : Option Addr := match p.1 with
  | .ref a => some a
  | _ => none
abbrev roots (ps : List (V × Dc)) : List Addr := ps.filterMap rootOf
theorem roots_mem {ps : List (V × Dc)} {c : Addr} : c ∈ roots ps ↔ ∃ p ∈ ps, p.1 = .ref c := by
  rw [List.mem_filterMap]
  constructor
  · rintro ⟨p, hp, e⟩
    refine ⟨p, hp, ?_⟩
    unfold rootOf at e
    split at e
    · rename_i a h; cases e; exact h
    · cases e
  · rintro ⟨p, hp, e⟩
    exact ⟨p, hp, by unfold rootOf; rw [e]⟩
theorem roots_append (ps qs : List (V × Dc)) : roots (ps ++ qs) = roots ps ++ roots qs := List.filterMap_append ..
def DoneL : List (V × Dc) → List Dc → Prop
  | [], [] => True
  | p :: ps, e :: es => e.val = p.1 ∧ Dc.like p.2 e ∧ DoneL ps es
  | _, _ => False
theorem DoneL.split : ∀ {ps qs : List (V × Dc)} {es : List Dc}, DoneL (ps ++ qs) es → ∃ er ec, es = er ++ ec ∧ DoneL ps er ∧ DoneL qs ec
  | [], qs, es, h => ⟨[], es, rfl, trivial, h⟩
  | p :: ps, qs, [], h => by simp [DoneL] at h
  | p :: ps, qs, e :: es, h => by
    simp only [List.cons_append, DoneL] at h
    obtain ⟨er, ec, rfl, h1, h2⟩ := DoneL.split h.2.2
    exact ⟨e :: er, ec, rfl, by simp only [DoneL]; exact ⟨h.1, h.2.1, h1⟩, h2⟩
theorem DoneL.app : ∀ {ps qs : List (V × Dc)} {er ec : List Dc}, DoneL ps er → DoneL qs ec → DoneL (ps ++ qs) (er ++ ec)
  | [], qs, [], ec, _, h => h
  | [], _, _ :: _, _, h, _ => by simp [DoneL] at h
  | _ :: _, _, [], _, h, _ => by simp [DoneL] at h
  | p :: ps, qs, e :: er, ec, h, h' => by
    simp only [DoneL, List.cons_append] at h ⊢
    exact ⟨h.1, h.2.1, DoneL.app h.2.2 h'⟩
theorem DoneL.vals : ∀ {ps : List (V × Dc)} {es : List Dc}, DoneL ps es → es.map Dc.val = ps.map (·.1)
  | [], [], _ => rfl
  | [], _ :: _, h => by simp [DoneL] at h
  | _ :: _, [], h => by simp [DoneL] at h
  | p :: ps, e :: es, h => by
    simp only [DoneL] at h
    simp only [List.map_cons, h.1, DoneL.vals h.2.2]
theorem DoneL.likes : ∀ {ps : List (V × Dc)} {es : List Dc}, DoneL ps es → Dc.likeL (ps.map (·.2)) es
  | [], [], _ => by simp [Dc.likeL]
  | [], _ :: _, h => by simp [DoneL] at h
  | _ :: _, [], h => by simp [DoneL] at h
  | p :: ps, e :: es, h => by
    simp only [DoneL] at h
    simp only [List.map_cons, Dc.likeL]
    exact ⟨h.2.1, DoneL.likes h.2.2⟩
structure CpInv (H Hi : Hp) (L : Addr) (tv : V) (d : Dc) (ps : List (V × Dc)) : Prop where
  same : Same H Hi
  nL : H L = none
  eL : Hi L = some (.lst (ps.map (·.1)))
  out : ∀ p ∈ ps, OutC H Hi p.1 p.2
  src : ∀ p ∈ ps, p.2.At H ∧ p.2.slim
  nd : (roots ps).Nodup
  nLr : L ∉ roots ps
  wand : ∀ (es : List Dc) (H' : Hp), DoneL ps es → FreshL H H' es → (∀ c ∈ Dc.addrsL es, Hi c = none ∨ c ∈ roots ps) → (∀ b o, b ≠ L → b ∉ roots ps → Hi b = some o → H' b = some o) → ∃ e : Dc, e.val = tv ∧ Dc.like d e ∧ Fresh H H' e
theorem OutC.root {H Hi : Hp} {p : V × Dc} {c : Addr} (o : OutC H Hi p.1 p.2) (e : p.1 = .ref c) : Hi c ≠ none ∧ H c = none ∧ ∀ ob u, Hi c ≠ some (.frz ob u) := by
  obtain ⟨v, d⟩ := p
  simp only at e
  subst e
  cases d with
  | leaf v =>
    obtain ⟨rfl, h⟩ := (show V.ref c = v ∧ Dc.Lf v from o)
    rcases h with ⟨i, h⟩ | ⟨x, h, _⟩ <;> cases h
  | row b xs =>
    obtain ⟨a, e, h1, h2⟩ := (show ∃ a, V.ref c = .ref a ∧ Hi a = some (.lst (xs.map Dc.val)) ∧ H a = none from o)
    cases e
    exact ⟨by rw [h1]; simp, h2, fun ob u z => by rw [h1] at z; cases z⟩
  | tab b ks xs =>
    obtain ⟨a, e, h1, h2⟩ := (show ∃ a, V.ref c = .ref a ∧ Hi a = some (.dK (Dc.kvs ks xs)) ∧ H a = none from o)
    cases e
    exact ⟨by rw [h1]; simp, h2, fun ob u z => by rw [h1] at z; cases z⟩
theorem OutC.up {H Hi H2 : Hp} {c : V} {d : Dc} (o : OutC H Hi c d) (k : ∀ a, c = .ref a → ∀ u, Hi a = some u → H2 a = some u) : OutC H H2 c d := by
  cases d with
  | leaf v => exact o
  | row b xs => obtain ⟨a, e, h1, h2⟩ := o; exact ⟨a, e, k a e _ h1, h2⟩
  | tab b ks xs => obtain ⟨a, e, h1, h2⟩ := o; exact ⟨a, e, k a e _ h1, h2⟩
theorem CpInv.step {H Hi H2 : Hp} {L a : Addr} {tv : V} {d node : Dc} {ps : List (V × Dc)} (C : CpInv H Hi L tv d (ps ++ [(.ref a, node)])) (cp : List (V × Dc))
    (keep : ∀ b o, b ≠ a → b ≠ L → Hi b = some o → H2 b = some o) (eL : H2 L = some (.lst ((ps ++ cp).map (·.1)))) (out : ∀ p ∈ cp, OutC H H2 p.1 p.2) (src : ∀ p ∈ cp, p.2.At H ∧ p.2.slim) (rn : (roots cp).Nodup) (rf : ∀ c ∈ roots cp, Hi c = none)
    (ha2 : H2 a ≠ none) (own : ∀ ob u, H2 a ≠ some (.frz ob u))
    (build : ∀ (ec : List Dc) (H' : Hp), DoneL cp ec → Dc.AtL H' ec → H' a = H2 a → ∃ e : Dc, e.val = .ref a ∧ Dc.like node e ∧ e.At H' ∧ e.addrs.Perm (a :: Dc.addrsL ec)) : CpInv H H2 L tv d (ps ++ cp) := by
  have rt : roots (ps ++ [(V.ref a, node)]) = roots ps ++ [a] := by rw [roots_append]; rfl
  have nd := C.nd
  rw [rt] at nd
  obtain ⟨nd1, _, nd3⟩ := List.nodup_append.mp nd
  have nLr := C.nLr
  rw [rt] at nLr
  have aL : a ≠ L := fun z => nLr (by rw [← z]; simp)
  have har : a ∉ roots ps := fun z => nd3 a z a (by simp) rfl
  have Ha := (C.out (.ref a, node) (by simp)).root rfl
  have pr : ∀ c ∈ roots ps, c ≠ a ∧ c ≠ L ∧ Hi c ≠ none := fun c hc => by
    obtain ⟨p, hp, e⟩ := roots_mem.mp hc
    refine ⟨fun z => har (by rw [← z]; exact hc), fun z => nLr (by rw [← z]; simp [hc]), ?_⟩
    exact ((C.out p (by simp [hp])).root e).1
  refine ⟨fun b o e => ?_, C.nL, eL, fun p hp => ?_, fun p hp => ?_, ?_, ?_, fun es H' dn fr z kp => ?_⟩
  · exact keep b o (ne_of_none e Ha.2.1) (ne_of_none e C.nL) (C.same b o e)
  · rcases List.mem_append.mp hp with hp | hp
    · refine (C.out p (by simp [hp])).up fun c e u h => ?_
      have := pr c (roots_mem.mpr ⟨p, hp, e⟩)
      exact keep c u this.1 this.2.1 h
    · exact out p hp
  · rcases List.mem_append.mp hp with hp | hp
    · exact C.src p (by simp [hp])
    · exact src p hp
  · rw [roots_append]
    refine List.nodup_append.mpr ⟨nd1, rn, fun x hx y hy e => ?_⟩
    subst e
    exact (pr x hx).2.2 (rf x hy)
  · rw [roots_append]
    intro h
    rcases List.mem_append.mp h with h | h
    · exact nLr (by simp [h])
    · have := rf L h
      rw [C.eL] at this
      cases this
  · obtain ⟨er, ec, rfl, d1, d2⟩ := dn.split
    have aN : a ∉ roots (ps ++ cp) := by
      rw [roots_append]
      intro h
      rcases List.mem_append.mp h with h | h
      · exact har h
      · exact Ha.1 (rf a h)
    have H'a : H' a = H2 a := by
      cases e : H2 a with
      | none => exact absurd e ha2
      | some o => exact kp a o aL aN e
    obtain ⟨at1, at2⟩ := (Dc.AtL_append _ _).mp fr.at_
    obtain ⟨e, ev, el, ea, ep⟩ := build ec H' d2 at2 H'a
    have aout : a ∉ Dc.addrsL (er ++ ec) := fun h => by
      rcases z a h with h | h
      · exact ha2 h
      · exact aN h
    have eadd : Dc.addrsL (er ++ [e]) = Dc.addrsL er ++ e.addrs := by rw [Dc.addrsL_append]; simp [Dc.addrsL]
    have mem : ∀ c, c ∈ Dc.addrsL (er ++ [e]) → c = a ∨ c ∈ Dc.addrsL (er ++ ec) := fun c hc => by
      rw [eadd] at hc
      rw [Dc.addrsL_append]
      rcases List.mem_append.mp hc with hc | hc
      · exact .inr (List.mem_append_left _ hc)
      · rcases List.mem_cons.mp (ep.mem_iff.mp hc) with hc | hc
        · exact .inl hc
        · exact .inr (List.mem_append_right _ hc)
    have fr2 : FreshL H H' (er ++ [e]) := by
      refine ⟨fr.same, (Dc.AtL_append _ _).mpr ⟨at1, by simp only [Dc.AtL]; exact ⟨ea, trivial⟩⟩, ?_, fun c hc => ?_, fun c hc => ?_⟩
      · have n0 := fr.nd
        rw [Dc.addrsL_append] at n0 aout
        have : (Dc.addrsL er ++ (a :: Dc.addrsL ec)).Nodup := by
          obtain ⟨x1, x2, x3⟩ := List.nodup_append.mp n0
          refine List.nodup_append.mpr ⟨x1, List.nodup_cons.mpr ⟨fun h => aout (List.mem_append_right _ h), x2⟩, fun x hx y hy exy => ?_⟩
          subst exy
          rcases List.mem_cons.mp hy with hy | hy
          · exact aout (List.mem_append_left _ (by rw [← hy]; exact hx))
          · exact x3 x hx x hy rfl
        rw [eadd]
        exact ((List.Perm.append_left _ ep).nodup_iff).mpr this
      · rcases mem c hc with rfl | hc
        · intro ob u h; rw [H'a] at h; exact own ob u h
        · exact fr.own c hc
      · rcases mem c hc with rfl | hc
        · exact Ha.2.1
        · exact fr.new c hc
    refine C.wand (er ++ [e]) H' (d1.app (by simp only [DoneL]; exact ⟨ev, el, trivial⟩)) fr2 (fun c hc => ?_) (fun b o hb hr h => ?_)
    · rw [rt]
      rcases mem c hc with rfl | hc
      · exact .inr (by simp)
      · rcases z c hc with h | h
        · left
          cases q : Hi c with
          | none => rfl
          | some o =>
            have cna : c ≠ a := fun w => ha2 (by rw [← w]; exact h)
            have cnL : c ≠ L := fun w => by rw [w, eL] at h; cases h
            rw [keep c o cna cnL q] at h
            cases h
        · rw [roots_append] at h
          rcases List.mem_append.mp h with h | h
          · exact .inr (by simp [h])
          · exact .inl (rf c h)
    · rw [rt] at hr
      have hra : b ≠ a := fun w => hr (by simp [w])
      refine kp b o hb ?_ (keep b o hra hb h)
      rw [roots_append]
      intro w
      rcases List.mem_append.mp w with w | w
      · exact hr (by simp [w])
      · rw [rf b w] at h; cases h
theorem CpInv.start {H Hi : Hp} {L : Addr} {d : Dc} {tv : V} (s : Same H Hi) (nL : H L = none) (eL : Hi L = some (.lst [tv])) (o : OutC H Hi tv d) (h : d.At H) (sl : d.slim) (ne : tv ≠ .ref L) : CpInv H Hi L tv d [(tv, d)] := by
  refine ⟨s, nL, eL, fun p hp => by rw [List.mem_singleton.mp hp]; exact o, fun p hp => by rw [List.mem_singleton.mp hp]; exact ⟨h, sl⟩, ?_, ?_, fun es H' dn fr z kp => ?_⟩
  · cases tv <;> first | exact List.nodup_nil | exact List.nodup_cons.mpr ⟨(fun h => nomatch h), List.nodup_nil⟩
  · intro hh
    obtain ⟨p, hp, e⟩ := roots_mem.mp hh
    rw [List.mem_singleton.mp hp] at e
    exact ne e
  · cases es with
    | nil => simp [DoneL] at dn
    | cons e r =>
      cases r with
      | cons _ _ => simp [DoneL] at dn
      | nil =>
        simp only [DoneL] at dn
        have ea : Dc.addrsL [e] = e.addrs := by simp [Dc.addrsL]
        have fa := fr.at_
        simp only [Dc.AtL] at fa
        have fn := fr.nd
        rw [ea] at fn
        exact ⟨e, dn.1, dn.2.1, fr.same, fa.1, fn, fun a ha => fr.own a (by rw [ea]; exact ha), fun a ha => fr.new a (by rw [ea]; exact ha)⟩
theorem CpInv.done {H Hi : Hp} {L : Addr} {d : Dc} {tv : V} (C : CpInv H Hi L tv d []) : ∃ e : Dc, e.val = tv ∧ Dc.like d e ∧ Fresh H Hi e :=
  C.wand [] Hi trivial (.nil C.same) (fun c hc => (nomatch hc)) fun b o _ _ h => h
theorem CpInv.leaf {H Hi H2 : Hp} {L : Addr} {d : Dc} {tv v : V} {ps : List (V × Dc)} (C : CpInv H Hi L tv d (ps ++ [(v, .leaf v)])) (keep : ∀ b o, b ≠ L → Hi b = some o → H2 b = some o) (eL : H2 L = some (.lst (ps.map (·.1)))) : CpInv H H2 L tv d ps := by
  have lv : Dc.Lf v := (show v = v ∧ Dc.Lf v from C.out (v, .leaf v) (by simp)).2
  have rt : roots (ps ++ [(v, Dc.leaf v)]) = roots ps := by
    rw [roots_append]
    rcases lv with ⟨i, rfl⟩ | ⟨x, rfl, _⟩ <;> simp [roots, rootOf]
  have nd := C.nd
  have nLr := C.nLr
  rw [rt] at nd nLr
  refine ⟨fun b o e => keep b o (ne_of_none e C.nL) (C.same b o e), C.nL, eL, fun p hp => ?_, fun p hp => C.src p (by simp [hp]), nd, nLr, fun es H' dn fr z kp => ?_⟩
  · refine (C.out p (by simp [hp])).up fun c e u h => keep c u (fun w => nLr ?_) h
    rw [← w]
    exact roots_mem.mpr ⟨p, hp, e⟩
  · have ea : Dc.addrsL (es ++ [.leaf v]) = Dc.addrsL es := by rw [Dc.addrsL_append]; simp [Dc.addrsL, Dc.addrs]
    refine C.wand (es ++ [.leaf v]) H' (dn.app (by simp [DoneL, Dc.val, Dc.like])) ⟨fr.same, (Dc.AtL_append _ _).mpr ⟨fr.at_, by simp only [Dc.AtL, Dc.At]; exact ⟨lv, trivial⟩⟩, by rw [ea]; exact fr.nd, by rw [ea]; exact fr.own, by rw [ea]; exact fr.new⟩ (fun c hc => ?_) (fun b o hb hr h => ?_)
    · rw [ea] at hc
      rw [rt]
      rcases z c hc with h | h
      · left
        cases q : Hi c with
        | none => rfl
        | some o =>
          have cnL : c ≠ L := fun w => by rw [w, eL] at h; cases h
          rw [keep c o cnL q] at h
          cases h
      · exact .inr h
    · rw [rt] at hr
      exact kp b o hb hr (keep b o hb h)
def OuterQ (H : Hp) (Q : VK) : Dc → Prop
  | .leaf v => Q v H
  | .row _ xs => ∀ p, H p = none → Q (.ref p) (upd H p (.lst (xs.map Dc.val)))
  | .tab _ ks xs => ∀ p, H p = none → Q (.ref p) (upd H p (.dK (Dc.kvs ks xs)))
inductive spOuterI (vs : List V) (H : Hp) (Q : VK) (u3_ : XK) : Prop
  | mk (d : Dc) (x0 : vs = [d.val]) (x1 : d.At H) (x2 : OuterQ H Q d) : spOuterI  vs H Q u3_
def spOuter : Sp := fun vs H Q u3_ => spOuterI  vs H Q u3_
inductive spCopyOfI (vs : List V) (H : Hp) (Q : VK) (u3_ : XK) : Prop
  | mk (d : Dc) (x0 : vs = [d.val]) (x1 : d.At H) (x2 : d.slim) (x3 : d.size ≤ 900) (x4 : ∀ (d' : Dc) (H' : Hp), Fresh H H' d' → Dc.like d d' → Q d'.val H') : spCopyOfI  vs H Q u3_
def spCopyOf : Sp := fun vs H Q u3_ => spCopyOfI  vs H Q u3_
theorem OuterQ.of {H0 H : Hp} {Q : VK} {d : Dc} (s : Same H0 H) (h : d.At H) (k : ∀ tv Hi, Same H Hi → OutC H0 Hi tv d → (∀ a, tv = .ref a → H a = none) → Q tv Hi) : OuterQ H Q d := by
  cases d with
  | leaf v =>
    refine k v H (Same.refl H) ⟨rfl, h⟩ fun a e => ?_
    rcases (show Dc.Lf v from h) with ⟨i, rfl⟩ | ⟨x, rfl, _⟩ <;> cases e
  | row b xs => exact fun p hp => k _ _ (Same.new hp) ⟨p, rfl, upd_same, s.free hp⟩ fun a e => by cases e; exact hp
  | tab b ks xs => exact fun p hp => k _ _ (Same.new hp) ⟨p, rfl, upd_same, s.free hp⟩ fun a e => by cases e; exact hp
def kvsV (ks : List Str) (vs : List V) : List (Key × V) := (ks.zip vs).map fun p => (Sum.inr p.1, p.2)
theorem kvs_kvsV (ks : List Str) (xs : List Dc) : Dc.kvs ks xs = kvsV ks (xs.map Dc.val) := rfl
theorem kvsV_len {ks : List Str} {vs : List V} (h : ks.length = vs.length) : (kvsV ks vs).length = ks.length := by
  unfold kvsV
  rw [List.length_map, List.length_zip]
  omega
theorem kvsV_get : ∀ {ks : List Str} {vs : List V} {j : Nat} {k : Str}, ks.length = vs.length → ks.Nodup → ks[j]? = some k → valV (kvsV ks vs) (Sum.inr k) = vs[j]?
  | [], _, _, _, _, _, h => by simp at h
  | y :: r, [], _, _, h, _, _ => by simp at h
  | y :: r, v :: vs, 0, k, _, _, h => by
    simp at h
    subst h
    exact valV_pos rfl
  | y :: r, v :: vs, j + 1, k, hl, nd, h => by
    obtain ⟨n1, n2⟩ := List.nodup_cons.mp nd
    have h' : r[j]? = some k := by simpa using h
    have ne : ¬ (Sum.inr y : Key) = Sum.inr k := fun z => n1 (by rw [Sum.inr.inj z]; exact List.mem_of_getElem? h')
    show valV ((Sum.inr y, v) :: kvsV r vs) (Sum.inr k) = _
    rw [valV_neg ne, kvsV_get (by simpa using hl) n2 h']
    simp
theorem kvsV_put {ks : List Str} {vs : List V} {j : Nat} {k : Str} (hl : ks.length = vs.length) (nd : ks.Nodup) (h : ks[j]? = some k) (c : V) : putK (kvsV ks vs) (Sum.inr k) c = kvsV ks (vs.set j c) := by
  have hj : j < vs.length := by rw [← hl]; exact (List.getElem?_eq_some_iff.mp h).1
  have hv : valV (kvsV ks vs) (Sum.inr k) = some vs[j] := by rw [kvsV_get hl nd h, List.getElem?_eq_getElem hj]
  unfold putK
  rw [if_pos (by rw [valV_any, hv]; rfl)]
  have gen : ∀ (ks : List Str) (vs : List V) (j : Nat), ks.length = vs.length → ks.Nodup → ks[j]? = some k → (kvsV ks vs).map (fun kv => if kv.1 = Sum.inr k then (kv.1, c) else kv) = kvsV ks (vs.set j c) := by
    intro ks
    induction ks with
    | nil => intro vs j _ _ h; simp at h
    | cons y r ih =>
      intro vs j hl nd h
      cases vs with
      | nil => simp at hl
      | cons v vs =>
        obtain ⟨n1, n2⟩ := List.nodup_cons.mp nd
        cases j with
        | zero =>
          simp at h
          subst h
          have tl : (kvsV r vs).map (fun kv => if kv.1 = Sum.inr y then (kv.1, c) else kv) = kvsV r vs := by
            have : ∀ p ∈ kvsV r vs, (fun kv : Key × V => if kv.1 = Sum.inr y then (kv.1, c) else kv) p = id p := fun p hp => by
              obtain ⟨q, hq, rfl⟩ := List.mem_map.mp hp
              have hm : q.1 ∈ r := (List.of_mem_zip hq).1
              exact if_neg fun z => n1 (by rw [← Sum.inr.inj z]; exact hm)
            rw [List.map_congr_left this, List.map_id]
          show (if (Sum.inr y : Key) = Sum.inr y then (Sum.inr y, c) else (Sum.inr y, v)) :: (kvsV r vs).map _ = (Sum.inr y, c) :: kvsV r vs
          rw [if_pos rfl, tl]
        | succ j =>
          have h' : r[j]? = some k := by simpa using h
          have ne : ¬ (Sum.inr y : Key) = Sum.inr k := fun z => n1 (by rw [Sum.inr.inj z]; exact List.mem_of_getElem? h')
          show (if (Sum.inr y : Key) = Sum.inr k then (Sum.inr y, c) else (Sum.inr y, v)) :: (kvsV r vs).map _ = (Sum.inr y, v) :: kvsV r (vs.set j c)
          rw [if_neg ne, ih vs j (by simpa using hl) n2 h']
  exact gen ks vs j hl nd h
theorem reorder {ks ss : List Str} {ec : List Dc} (p : ss.Perm ks) (nd : ss.Nodup) (l : ec.length = ss.length) : ∃ es : List Dc, es.Perm ec ∧ es.length = ks.length ∧ ∀ (j t : Nat) k, ks[j]? = some k → ss[t]? = some k → es[j]? = ec[t]? := by
  have fnd : ∀ k ∈ ks, ∃ x, (ss.zip ec).lookup k = some x := fun k hk => let ⟨x, h, _⟩ := Dc.lookup_of_mem l.symm (p.mem_iff.mpr hk); ⟨x, h⟩
  have gen : ∀ ks : List Str, (∀ k ∈ ks, ∃ x, (ss.zip ec).lookup k = some x) → ∃ es : List Dc, es.map some = ks.map fun k => (ss.zip ec).lookup k := by
    intro ks
    induction ks with
    | nil => exact fun _ => ⟨[], rfl⟩
    | cons k r ih =>
      intro h
      obtain ⟨x, hx⟩ := h k List.mem_cons_self
      obtain ⟨es, h2⟩ := ih fun k' hk' => h k' (List.mem_cons_of_mem _ hk')
      exact ⟨x :: es, by simp [h2, hx]⟩
  obtain ⟨es, he⟩ := gen ks fnd
  have hec : ec.map some = ss.map fun k => (ss.zip ec).lookup k := by
    refine List.ext_getElem? fun i => ?_
    rw [List.getElem?_map, List.getElem?_map]
    cases hs : ss[i]? with
    | none =>
      have : ec[i]? = none := List.getElem?_eq_none_iff.mpr (by rw [l]; exact List.getElem?_eq_none_iff.mp hs)
      rw [this]
      rfl
    | some k =>
      have hi : i < ec.length := by rw [l]; exact (List.getElem?_eq_some_iff.mp hs).1
      rw [List.getElem?_eq_getElem hi]
      show some (some ec[i]) = some ((ss.zip ec).lookup k)
      rw [Dc.zip_at ss ec i nd hs (List.getElem?_eq_getElem hi)]
  refine ⟨es, ?_, ?_, fun j t k h1 h2 => ?_⟩
  · have p1 : (es.map some).Perm (ec.map some) := by rw [he, hec]; exact (p.map _).symm
    have p2 := p1.filterMap id
    simpa using p2
  · have := congrArg List.length he
    simpa using this
  · have e1 := congrArg (fun z => z[j]?) he
    simp only [List.getElem?_map, h1] at e1
    have e2 := congrArg (fun z => z[t]?) hec
    simp only [List.getElem?_map, h2] at e2
    have e3 : es[j]?.map some = ec[t]?.map some := e1.trans e2.symm
    cases q1 : es[j]? <;> cases q2 : ec[t]? <;> simp_all
theorem addrsL_perm {xs ys : List Dc} (p : xs.Perm ys) : (Dc.addrsL xs).Perm (Dc.addrsL ys) := by
  induction p with
  | nil => exact .refl _
  | cons x _ ih => simp only [Dc.addrsL]; exact ih.append_left _
  | swap x y l =>
    simp only [Dc.addrsL, ← List.append_assoc]
    exact (List.perm_append_comm).append_right _
  | trans _ _ i1 i2 => exact i1.trans i2
theorem atL_perm {H : Hp} {xs ys : List Dc} (p : xs.Perm ys) (h : Dc.AtL H ys) : Dc.AtL H xs := by
  have gen : ∀ l : List Dc, (∀ x ∈ l, x.At H) → Dc.AtL H l := by
    intro l
    induction l with
    | nil => intro _; trivial
    | cons x r ih => intro h; simp only [Dc.AtL]; exact ⟨h x List.mem_cons_self, ih fun y hy => h y (List.mem_cons_of_mem _ hy)⟩
  exact gen xs fun x hx => Dc.AtL_mem h x (p.mem_iff.mp hx)
theorem likeL_of : ∀ {xs ys : List Dc}, xs.length = ys.length → (∀ (i : Nat) x y, xs[i]? = some x → ys[i]? = some y → Dc.like x y) → Dc.likeL xs ys
  | [], [], _, _ => by simp [Dc.likeL]
  | [], _ :: _, h, _ => by simp at h
  | _ :: _, [], h, _ => by simp at h
  | x :: r, y :: t, h, k => by
    simp only [Dc.likeL]
    exact ⟨k 0 x y rfl rfl, likeL_of (by simpa using h) fun i a b h1 h2 => k (i + 1) a b (by simpa using h1) (by simpa using h2)⟩
end L2
namespace L2
open PySem PySem.Spec PyProof.Rows
theorem OuterQ_ne {H Hi : Hp} {d : Dc} {tv : V} (hat : d.At H) (o : OutC H Hi tv d) {L : Addr} (e : tv = .ref L) : Hi L ≠ none := (OutC.root (p := (tv, d)) o e).1
theorem zip_snoc {cs : List V} {xs : List Dc} {c : V} {x : Dc} {i : Nat} (l : cs.length = i) (hx : xs[i]? = some x) : (cs ++ [c]).zip xs = cs.zip xs ++ [(c, x)] := by
  induction cs generalizing xs i with
  | nil =>
    cases xs with
    | nil => simp at hx
    | cons y t =>
      simp at l
      subst l
      simp at hx
      subst hx
      simp
  | cons z r ih =>
    cases xs with
    | nil => simp at hx
    | cons y t =>
      cases i with
      | zero => simp at l
      | succ i =>
        simp only [List.cons_append, List.zip_cons_cons]
        rw [ih (by simpa using l) (by simpa using hx)]
end L2

set_option Elab.async false
set_option linter.all false
set_option maxRecDepth 100000
set_option maxHeartbeats 4000000
namespace L2
open PySem PySem.Spec PyProof.Rows
namespace Dc
inductive Eqv : Dc → Dc → Prop where
  | leaf (v : V) : Eqv (leaf v) (leaf v)
  | row {a b : Addr} {xs ys : List Dc} (l : xs.length = ys.length) (h : ∀ (i : Nat) x y, xs[i]? = some x → ys[i]? = some y → Eqv x y) : Eqv (row a xs) (row b ys)
  | tab {a b : Addr} {ks ls : List Str} {xs ys : List Dc} (p : ks.Perm ls) (h : ∀ k x y, (ks.zip xs).lookup k = some x → (ls.zip ys).lookup k = some y → Eqv x y) : Eqv (tab a ks xs) (tab b ls ys)
theorem zip_like {ks : List Str} : ∀ {xs ys : List Dc}, likeL xs ys → ∀ {k : Str} {x y : Dc}, (ks.zip xs).lookup k = some x → (ks.zip ys).lookup k = some y → ∃ i : Nat, xs[i]? = some x ∧ ys[i]? = some y := by
  induction ks with
  | nil => intro xs ys _ k x y h; simp at h
  | cons z r ih =>
    intro xs ys hl k x y h1 h2
    cases xs with
    | nil => simp at h1
    | cons x0 xs =>
      cases ys with
      | nil => simp at h2
      | cons y0 ys =>
        simp only [likeL] at hl
        simp only [List.zip_cons_cons, List.lookup_cons] at h1 h2
        by_cases e : k = z
        · subst e
          simp at h1 h2
          exact ⟨0, by simp [h1], by simp [h2]⟩
        · have : (k == z) = false := by simpa using e
          rw [this] at h1 h2
          obtain ⟨i, g1, g2⟩ := ih hl.2 h1 h2
          exact ⟨i + 1, by simpa using g1, by simpa using g2⟩
mutual
theorem like_eqv : ∀ d e : Dc, like d e → Eqv d e
  | leaf v, e, h => by
    cases e with
    | leaf w => have : v = w := by simpa [like] using h
                subst this; exact .leaf v
    | _ => simp [like] at h
  | row a xs, e, h => by
    cases e with
    | row b ys =>
      simp only [like] at h
      exact .row (likeL_length h) (likeL_eqv xs ys h)
    | _ => simp [like] at h
  | tab a ks xs, e, h => by
    cases e with
    | tab b ls ys =>
      simp only [like] at h
      obtain ⟨rfl, h⟩ := h
      refine .tab (.refl _) fun k x y h1 h2 => ?_
      obtain ⟨i, g1, g2⟩ := zip_like h h1 h2
      exact likeL_eqv xs ys h i x y g1 g2
    | _ => simp [like] at h
theorem likeL_eqv : ∀ xs ys : List Dc, likeL xs ys → ∀ (i : Nat) x y, xs[i]? = some x → ys[i]? = some y → Eqv x y
  | [], _, _, i, x, y, h, _ => by simp at h
  | _ :: _, [], h, _, _, _, _, _ => by simp [likeL] at h
  | x0 :: r, y0 :: t, h, 0, x, y, h1, h2 => by
    simp only [likeL] at h
    simp at h1 h2
    subst h1 h2
    exact like_eqv _ _ h.1
  | x0 :: r, y0 :: t, h, i + 1, x, y, h1, h2 => by
    simp only [likeL] at h
    exact likeL_eqv r t h.2 i x y (by simpa using h1) (by simpa using h2)
end
theorem Eqv.symm {d e : Dc} (h : Eqv d e) : Eqv e d := by
  induction h with
  | leaf v => exact .leaf v
  | row l _ ih => exact .row l.symm fun i x y h1 h2 => ih i y x h2 h1
  | tab p _ ih => exact .tab p.symm fun k x y h1 h2 => ih k y x h2 h1
inductive Wf : Dc → Prop where
  | leaf (v : V) : Wf (leaf v)
  | row {a : Addr} {xs : List Dc} (h : ∀ x ∈ xs, Wf x) : Wf (row a xs)
  | tab {a : Addr} {ks : List Str} {xs : List Dc} (l : ks.length = xs.length) (n : ks.Nodup) (h : ∀ x ∈ xs, Wf x) : Wf (tab a ks xs)
mutual
theorem at_wf {H : Hp} : ∀ d : Dc, d.At H → d.Wf
  | leaf v, _ => .leaf v
  | row a xs, h => by simp only [At] at h; exact .row (atL_wf xs h.2)
  | tab a ks xs, h => by simp only [At] at h; exact .tab h.2.1 h.2.2.1 (atL_wf xs h.2.2.2)
theorem atL_wf {H : Hp} : ∀ xs : List Dc, AtL H xs → ∀ x ∈ xs, x.Wf
  | [], _, x, hx => nomatch hx
  | y :: r, h, x, hx => by
    simp only [AtL] at h
    have h1 := at_wf y h.1
    have h2 := atL_wf r h.2
    rcases List.mem_cons.mp hx with e | hx
    · rw [e]; exact h1
    · exact h2 x hx
end
theorem Eqv.trans {d e f : Dc} (we : e.Wf) (h : Eqv d e) (h' : Eqv e f) : Eqv d f := by
  induction h generalizing f with
  | leaf v => exact h'
  | @row a b xs ys l hx ih =>
    cases h' with
    | @row _ c _ zs l' hy =>
      cases we with
      | row wy =>
        refine .row (l.trans l') fun i x z h1 h2 => ?_
        obtain ⟨y, h3⟩ : ∃ y, ys[i]? = some y := ⟨_, List.getElem?_eq_getElem (by rw [← l]; exact (List.getElem?_eq_some_iff.mp h1).1)⟩
        exact ih i x y h1 h3 (wy y (List.mem_of_getElem? h3)) (hy i y z h3 h2)
  | @tab a b ks ls xs ys p hx ih =>
    cases h' with
    | @tab _ c _ ms _ zs p' hy =>
      cases we with
      | tab wl wn wy =>
        refine .tab (p.trans p') fun k x z h1 h2 => ?_
        obtain ⟨y, h3, hm⟩ := lookup_of_mem wl (p.mem_iff.mp (mem_zip_lookup h1).1)
        exact ih k x y h1 h3 (wy y hm) (hy k y z h3 h2)
theorem szAt_map {ks : List Str} {xs : List Dc} (h : ks.length = xs.length) (n : ks.Nodup) {k : Str} {x : Dc} (e : (ks.zip xs).lookup k = some x) : szAt ks xs k = x.size := by simp [szAt, e]
theorem Eqv.size {d e : Dc} (wd : d.Wf) (we : e.Wf) (h : Eqv d e) : d.size = e.size := by
  induction h with
  | leaf v => rfl
  | @row a b xs ys l hx ih =>
    cases wd with
    | row wx =>
      cases we with
      | row wy =>
        simp only [Dc.size]
        congr 1
        have gen : ∀ (xs ys : List Dc), xs.length = ys.length → (∀ (i : Nat) x y, xs[i]? = some x → ys[i]? = some y → x.size = y.size) → sizeL xs = sizeL ys := by
          intro xs
          induction xs with
          | nil => intro ys h _; cases ys with | nil => rfl | cons _ _ => simp at h
          | cons x r ih =>
            intro ys h hh
            cases ys with
            | nil => simp at h
            | cons y t =>
              simp only [sizeL]
              rw [hh 0 x y rfl rfl, ih t (by simpa using h) fun i a b h1 h2 => hh (i + 1) a b (by simpa using h1) (by simpa using h2)]
        exact gen xs ys l fun i x y h1 h2 => ih i x y h1 h2 (wx x (List.mem_of_getElem? h1)) (wy y (List.mem_of_getElem? h2))
  | @tab a b ks ls xs ys p hx ih =>
    cases wd with
    | tab wl wn wx =>
      cases we with
      | tab wl' wn' wy =>
        simp only [Dc.size]
        congr 1
        rw [← szAt_perm wl wn p.symm, ← szAt_sum wl' wn']
        congr 1
        refine List.map_congr_left fun k hk => ?_
        obtain ⟨y, h2, hm2⟩ := lookup_of_mem wl' hk
        obtain ⟨x, h1, hm1⟩ := lookup_of_mem wl (p.mem_iff.mpr hk)
        rw [szAt_map wl wn h1, szAt_map wl' wn' h2]
        exact ih k x y h1 h2 (wx x hm1) (wy y hm2)
def ix (ks : List Str) (k : Str) : Nat := ks.findIdx (· == k)
theorem ix_get {ks : List Str} {k : Str} (h : k ∈ ks) : ks[ix ks k]? = some k := by
  have hl : ix ks k < ks.length := List.findIdx_lt_length_of_exists ⟨k, h, by simp⟩
  rw [List.getElem?_eq_getElem hl]
  have h2 : (ks[ix ks k] == k) = true := List.findIdx_getElem (w := hl)
  exact congrArg some (eq_of_beq h2)
theorem lookup_ix {ks : List Str} {xs : List Dc} {k : Str} {x : Dc} (l : ks.length = xs.length) (n : ks.Nodup) (h : (ks.zip xs).lookup k = some x) : xs[ix ks k]? = some x := by
  have hk := (mem_zip_lookup h).1
  have e := ix_get hk
  have hi := (List.getElem?_eq_some_iff.mp e).1
  obtain ⟨y, hy⟩ : ∃ y, xs[ix ks k]? = some y := ⟨_, List.getElem?_eq_getElem (by rw [← l]; exact hi)⟩
  have := zip_at ks xs _ n e hy
  rw [h] at this
  cases this
  exact hy
def setP : Dc → List V → Dc → Dc
  | _, [], n => n
  | row a xs, .int i :: r, n => row a (match xs[i.toNat]? with | some x => xs.set i.toNat (setP x r n) | none => xs)
  | tab a ks xs, .str k :: r, n => tab a ks (match xs[ix ks k]? with | some x => xs.set (ix ks k) (setP x r n) | none => xs)
  | d, _ :: _, _ => d
theorem setP_row {a : Addr} {xs : List Dc} {i : Nat} {x : Dc} (h : xs[i]? = some x) (r : List V) (n : Dc) : setP (row a xs) (.int (i : Int) :: r) n = row a (xs.set i (setP x r n)) := by
  simp only [setP, Int.toNat_natCast, h]
theorem setP_tab {a : Addr} {ks : List Str} {xs : List Dc} {k : Str} {x : Dc} (h : xs[ix ks k]? = some x) (r : List V) (n : Dc) : setP (tab a ks xs) (.str k :: r) n = tab a ks (xs.set (ix ks k) (setP x r n)) := by
  simp only [setP, h]
theorem sub_cons {d : Dc} {z : V} {r : List V} {e : Dc} (h : d.sub (z :: r) = some e) : (∃ a xs i x, d = row a xs ∧ z = .int ((i : Nat) : Int) ∧ xs[i]? = some x ∧ x.sub r = some e) ∨ ∃ a ks xs k x, d = tab a ks xs ∧ z = .str k ∧ (ks.zip xs).lookup k = some x ∧ x.sub r = some e := by
  cases d with
  | leaf v => simp [sub] at h
  | row a xs =>
    cases z with
    | int i =>
      simp only [sub] at h
      by_cases h0 : 0 ≤ i
      · rw [if_pos h0] at h
        cases hx : xs[i.toNat]? with
        | none => rw [hx] at h; simp at h
        | some x => rw [hx] at h; exact .inl ⟨a, xs, i.toNat, x, rfl, by rw [Int.toNat_of_nonneg h0], hx, h⟩
      · rw [if_neg h0] at h; simp at h
    | _ => simp [sub] at h
  | tab a ks xs =>
    cases z with
    | str k =>
      simp only [sub] at h
      cases hx : (ks.zip xs).lookup k with
      | none => rw [hx] at h; simp at h
      | some x => rw [hx] at h; exact .inr ⟨a, ks, xs, k, x, rfl, rfl, hx, h⟩
    | _ => simp [sub] at h
theorem sub_nil (d : Dc) : d.sub [] = some d := by cases d <;> rfl
theorem sub_row {a : Addr} {xs : List Dc} {i : Nat} {x : Dc} (h : xs[i]? = some x) (r : List V) : (row a xs).sub (.int (i : Int) :: r) = x.sub r := by
  simp only [sub]
  rw [if_pos (by omega), Int.toNat_natCast, h]
  rfl
theorem sub_tab {a : Addr} {ks : List Str} {xs : List Dc} {k : Str} {x : Dc} (h : (ks.zip xs).lookup k = some x) (r : List V) : (tab a ks xs).sub (.str k :: r) = x.sub r := by
  simp only [sub, h]
  rfl
theorem PartOf.sub {us : List V} : ∀ {d e : Dc}, d.sub us = some e → PartOf e d := by
  induction us with
  | nil => intro d e h; rw [sub_nil] at h; cases h; exact .refl d
  | cons z r ih =>
    intro d e h
    rcases sub_cons h with ⟨a, xs, i, x, rfl, rfl, hx, h'⟩ | ⟨a, ks, xs, k, x, rfl, rfl, hx, h'⟩
    · exact (ih h').trans (.row (List.mem_of_getElem? hx))
    · exact (ih h').trans (.tab (mem_zip_lookup hx).2)
theorem setP_val {us : List V} : ∀ {d e n : Dc}, d.sub us = some e → n.val = e.val → (setP d us n).val = d.val := by
  induction us with
  | nil => intro d e n h hv; rw [sub_nil] at h; cases h; cases d <;> exact hv
  | cons z r ih =>
    intro d e n h hv
    rcases sub_cons h with ⟨a, xs, i, x, rfl, rfl, hx, h'⟩ | ⟨a, ks, xs, k, x, rfl, rfl, hx, h'⟩
    · rw [setP_row hx]; rfl
    · simp only [setP]; rfl
theorem set_map_val {xs : List Dc} {i : Nat} {x y : Dc} (h : xs[i]? = some x) (e : y.val = x.val) : (xs.set i y).map val = xs.map val := by
  refine List.ext_getElem? fun j => ?_
  rw [List.getElem?_map, List.getElem?_map]
  by_cases hj : i = j
  · subst hj
    rw [List.getElem?_set_self (List.getElem?_eq_some_iff.mp h).1, h]
    exact congrArg some e
  · rw [List.getElem?_set_ne hj]
theorem set_split {xs : List Dc} {i : Nat} {x : Dc} (h : xs[i]? = some x) : ∃ l r, xs = l ++ x :: r ∧ ∀ y, xs.set i y = l ++ y :: r := by
  have hi := (List.getElem?_eq_some_iff.mp h).1
  have hx := (List.getElem?_eq_some_iff.mp h).2
  refine ⟨xs.take i, xs.drop (i + 1), ?_, fun y => List.set_eq_take_append_cons_drop .. |>.trans (if_pos hi)⟩
  rw [← hx, List.getElem_cons_drop, List.take_append_drop]
theorem setP_addrs {us : List V} : ∀ {d e n : Dc}, d.Wf → d.addrs.Nodup → d.sub us = some e → ∃ l r, d.addrs = l ++ e.addrs ++ r ∧ (setP d us n).addrs = l ++ n.addrs ++ r := by
  induction us with
  | nil => intro d e n _ _ h; rw [sub_nil] at h; cases h; exact ⟨[], [], by simp, by cases d <;> simp [setP]⟩
  | cons z r ih =>
    intro d e n w nd h
    rcases sub_cons h with ⟨a, xs, i, x, rfl, rfl, hx, h'⟩ | ⟨a, ks, xs, k, x, rfl, rfl, hx, h'⟩
    · cases w with
      | row wx =>
        obtain ⟨l, t, e1, e2⟩ := set_split hx
        simp only [addrs, List.nodup_cons] at nd
        rw [e1, addrsL_append] at nd
        simp only [addrsL] at nd
        have ndx : x.addrs.Nodup := ((List.nodup_append.mp (List.nodup_append.mp nd.2).2.1)).1
        obtain ⟨l2, r2, f1, f2⟩ := ih (n := n) (wx x (List.mem_of_getElem? hx)) ndx h'
        refine ⟨a :: (addrsL l ++ l2), r2 ++ addrsL t, ?_, ?_⟩
        · simp only [addrs]; rw [e1, addrsL_append]; simp only [addrsL]; rw [f1]; simp
        · rw [setP_row hx]; simp only [addrs]; rw [e2, addrsL_append]; simp only [addrsL]; rw [f2]; simp
    · cases w with
      | tab wl wn wx =>
        have hx' := lookup_ix wl wn hx
        obtain ⟨l, t, e1, e2⟩ := set_split hx'
        simp only [addrs, List.nodup_cons] at nd
        rw [e1, addrsL_append] at nd
        simp only [addrsL] at nd
        have ndx : x.addrs.Nodup := ((List.nodup_append.mp (List.nodup_append.mp nd.2).2.1)).1
        obtain ⟨l2, r2, f1, f2⟩ := ih (n := n) (wx x (List.mem_of_getElem? hx')) ndx h'
        refine ⟨a :: (addrsL l ++ l2), r2 ++ addrsL t, ?_, ?_⟩
        · simp only [addrs]; rw [e1, addrsL_append]; simp only [addrsL]; rw [f1]; simp
        · rw [setP_tab hx']; simp only [addrs]; rw [e2, addrsL_append]; simp only [addrsL]; rw [f2]; simp
theorem setP_at {H H' : Hp} {us : List V} : ∀ {d e n : Dc}, d.addrs.Nodup → d.sub us = some e → n.val = e.val → n.At H' → (∀ a ∈ d.addrs, a ∉ e.addrs → ∀ o, H a = some o → H' a = some o) → d.At H → (setP d us n).At H' := by
  induction us with
  | nil => intro d e n _ h _ hn _ _; rw [sub_nil] at h; cases h; cases d <;> exact hn
  | cons z r ih =>
    intro d e n nd h hv hn f hd
    have PE := PartOf.sub h
    rcases sub_cons h with ⟨a, xs, i, x, rfl, rfl, hx, h'⟩ | ⟨a, ks, xs, k, x, rfl, rfl, hx, h'⟩
    · obtain ⟨l, t, e1, e2⟩ := set_split hx
      have Pe := PartOf.sub h'
      simp only [At] at hd
      simp only [addrs, List.nodup_cons] at nd
      have na : a ∉ e.addrs := fun z => nd.1 (by rw [e1, addrsL_append]; simp only [addrsL]; exact List.mem_append_right _ (List.mem_append_left _ (Pe.addrs a z)))
      have ndl := nd.2
      rw [e1, addrsL_append] at ndl
      simp only [addrsL] at ndl
      obtain ⟨n1, n2, n3⟩ := List.nodup_append.mp ndl
      obtain ⟨n4, n5, n6⟩ := List.nodup_append.mp n2
      have hds := hd.2
      rw [e1] at hds
      obtain ⟨d1, d2⟩ := (AtL_append _ _).mp hds
      simp only [AtL] at d2
      have fa : ∀ c, c ∈ addrsL xs → c ∉ e.addrs → ∀ o, H c = some o → H' c = some o := fun c hc he o hh => f c (by simp only [addrs]; exact List.mem_cons_of_mem _ hc) he o hh
      have inx : ∀ c, c ∈ addrsL l ∨ c ∈ x.addrs ∨ c ∈ addrsL t → c ∈ addrsL xs := fun c hc => by
        rw [e1, addrsL_append]
        simp only [addrsL, List.mem_append]
        exact hc
      have hx2 := ih (n := n) n4 h' hv hn (fun c hc he o hh => fa c (inx c (.inr (.inl hc))) he o hh) d2.1
      rw [setP_row hx]
      simp only [At]
      refine ⟨?_, ?_⟩
      · rw [set_map_val hx (setP_val h' hv)]
        exact hd.1.up (f a (by simp [addrs]) na)
      · rw [e2]
        refine (AtL_append _ _).mpr ⟨atL_frame l (fun c hc o hh => fa c (inx c (.inl hc)) (fun z => n3 c hc c (List.mem_append_left _ (Pe.addrs c z)) rfl) o hh) d1, ?_⟩
        simp only [AtL]
        exact ⟨hx2, atL_frame t (fun c hc o hh => fa c (inx c (.inr (.inr hc))) (fun z => n6 c (Pe.addrs c z) c hc rfl) o hh) d2.2⟩
    · simp only [At] at hd
      have hx' := lookup_ix hd.2.1 hd.2.2.1 hx
      obtain ⟨l, t, e1, e2⟩ := set_split hx'
      have Pe := PartOf.sub h'
      simp only [addrs, List.nodup_cons] at nd
      have na : a ∉ e.addrs := fun z => nd.1 (by rw [e1, addrsL_append]; simp only [addrsL]; exact List.mem_append_right _ (List.mem_append_left _ (Pe.addrs a z)))
      have ndl := nd.2
      rw [e1, addrsL_append] at ndl
      simp only [addrsL] at ndl
      obtain ⟨n1, n2, n3⟩ := List.nodup_append.mp ndl
      obtain ⟨n4, n5, n6⟩ := List.nodup_append.mp n2
      have hds := hd.2.2.2
      rw [e1] at hds
      obtain ⟨d1, d2⟩ := (AtL_append _ _).mp hds
      simp only [AtL] at d2
      have fa : ∀ c, c ∈ addrsL xs → c ∉ e.addrs → ∀ o, H c = some o → H' c = some o := fun c hc he o hh => f c (by simp only [addrs]; exact List.mem_cons_of_mem _ hc) he o hh
      have inx : ∀ c, c ∈ addrsL l ∨ c ∈ x.addrs ∨ c ∈ addrsL t → c ∈ addrsL xs := fun c hc => by
        rw [e1, addrsL_append]
        simp only [addrsL, List.mem_append]
        exact hc
      have hx2 := ih (n := n) n4 h' hv hn (fun c hc he o hh => fa c (inx c (.inr (.inl hc))) he o hh) d2.1
      rw [setP_tab hx']
      simp only [At]
      refine ⟨?_, by rw [List.length_set]; exact hd.2.1, hd.2.2.1, ?_⟩
      · have : kvs ks (xs.set (ix ks k) (setP x r n)) = kvs ks xs := by unfold kvs; rw [set_map_val hx' (setP_val h' hv)]
        rw [this]
        exact hd.1.up (f a (by simp [addrs]) na)
      · rw [e2]
        refine (AtL_append _ _).mpr ⟨atL_frame l (fun c hc o hh => fa c (inx c (.inl hc)) (fun z => n3 c hc c (List.mem_append_left _ (Pe.addrs c z)) rfl) o hh) d1, ?_⟩
        simp only [AtL]
        exact ⟨hx2, atL_frame t (fun c hc o hh => fa c (inx c (.inr (.inr hc))) (fun z => n6 c (Pe.addrs c z) c hc rfl) o hh) d2.2⟩
def room : Dc → V → Bool
  | row _ xs, .int i => decide (0 ≤ i) && decide (i ≤ (xs.length : Int))
  | tab _ ks _, .str k => !ks.contains k
  | _, _ => false
def insN : Dc → V → Dc → Dc
  | row a xs, .int i, v => row a (xs.take i.toNat ++ v :: xs.drop i.toNat)
  | tab a ks xs, .str k, v => tab a (ks ++ [k]) (xs ++ [v])
  | d, _, _ => d
def delN : Dc → V → Dc
  | row a xs, .int i => row a (xs.eraseIdx i.toNat)
  | tab a ks xs, .str k => tab a (ks.eraseIdx (ix ks k)) (xs.eraseIdx (ix ks k))
  | d, _ => d
theorem sub_one {d : Dc} {z : V} {x : Dc} (h : d.sub [z] = some x) : (∃ a xs i, d = row a xs ∧ z = .int ((i : Nat) : Int) ∧ xs[i]? = some x) ∨ ∃ a ks xs k, d = tab a ks xs ∧ z = .str k ∧ (ks.zip xs).lookup k = some x := by
  rcases sub_cons h with ⟨a, xs, i, y, h1, h2, h3, h4⟩ | ⟨a, ks, xs, k, y, h1, h2, h3, h4⟩
  · rw [sub_nil] at h4; cases h4; exact .inl ⟨a, xs, i, h1, h2, h3⟩
  · rw [sub_nil] at h4; cases h4; exact .inr ⟨a, ks, xs, k, h1, h2, h3⟩
theorem room_cases {e : Dc} {z : V} (h : e.room z = true) : (∃ a xs i, e = row a xs ∧ z = .int ((i : Nat) : Int) ∧ i ≤ xs.length) ∨ ∃ a ks xs k, e = tab a ks xs ∧ z = .str k ∧ k ∉ ks := by
  cases e with
  | leaf v => cases z <;> simp [room] at h
  | row a xs =>
    cases z with
    | int i =>
      simp only [room, Bool.and_eq_true, decide_eq_true_eq] at h
      exact .inl ⟨a, xs, i.toNat, rfl, by rw [Int.toNat_of_nonneg h.1], by omega⟩
    | _ => simp [room] at h
  | tab a ks xs =>
    cases z with
    | str k =>
      simp only [room, Bool.not_eq_true', List.contains_eq_mem, decide_eq_false_iff_not] at h
      exact .inr ⟨a, ks, xs, k, rfl, rfl, h⟩
    | _ => simp [room] at h
theorem insN_val (e : Dc) (z : V) (v : Dc) : (insN e z v).val = e.val := by
  cases e <;> cases z <;> rfl
theorem mem_set {xs : List Dc} {i : Nat} {y z : Dc} (h : z ∈ xs.set i y) : z ∈ xs ∨ z = y := List.mem_or_eq_of_mem_set h
theorem setP_wf {us : List V} : ∀ {d e n : Dc}, d.Wf → d.sub us = some e → n.Wf → (setP d us n).Wf := by
  induction us with
  | nil => intro d e n _ h wn; cases d <;> exact wn
  | cons z r ih =>
    intro d e n w h wn
    rcases sub_cons h with ⟨a, xs, i, x, rfl, rfl, hx, h'⟩ | ⟨a, ks, xs, k, x, rfl, rfl, hx, h'⟩
    · cases w with
      | row wx =>
        rw [setP_row hx]
        refine .row fun y hy => ?_
        rcases mem_set hy with hy | rfl
        · exact wx y hy
        · exact ih (wx x (List.mem_of_getElem? hx)) h' wn
    · cases w with
      | tab wl wnd wx =>
        have hx' := lookup_ix wl wnd hx
        rw [setP_tab hx']
        refine .tab (by rw [List.length_set]; exact wl) wnd fun y hy => ?_
        rcases mem_set hy with hy | rfl
        · exact wx y hy
        · exact ih (wx x (List.mem_of_getElem? hx')) h' wn
theorem sizeL_set {xs : List Dc} {i : Nat} {x y : Dc} (h : xs[i]? = some x) : sizeL (xs.set i y) + x.size = sizeL xs + y.size := by
  obtain ⟨l, t, e1, e2⟩ := set_split h
  rw [e2, e1, sizeL_append, sizeL_append]
  simp only [sizeL]
  omega
theorem setP_size {us : List V} : ∀ {d e n : Dc}, d.Wf → d.sub us = some e → (setP d us n).size + e.size = d.size + n.size := by
  induction us with
  | nil => intro d e n _ h; rw [sub_nil] at h; cases h; cases d <;> simp only [setP] <;> omega
  | cons z r ih =>
    intro d e n w h
    rcases sub_cons h with ⟨a, xs, i, x, rfl, rfl, hx, h'⟩ | ⟨a, ks, xs, k, x, rfl, rfl, hx, h'⟩
    · cases w with
      | row wx =>
        have := ih (n := n) (wx x (List.mem_of_getElem? hx)) h'
        have := sizeL_set (y := setP x r n) hx
        rw [setP_row hx]
        simp only [size]
        omega
    · cases w with
      | tab wl wnd wx =>
        have hx' := lookup_ix wl wnd hx
        have := ih (n := n) (wx x (List.mem_of_getElem? hx')) h'
        have := sizeL_set (y := setP x r n) hx'
        rw [setP_tab hx']
        simp only [size]
        omega
theorem Eqv.sub {us : List V} : ∀ {d d' e : Dc}, d.Wf → d'.Wf → Eqv d d' → d.sub us = some e → ∃ e', d'.sub us = some e' ∧ Eqv e e' := by
  induction us with
  | nil => intro d d' e _ _ q h; rw [sub_nil] at h; cases h; exact ⟨d', sub_nil d', q⟩
  | cons z r ih =>
    intro d d' e w w' q h
    rcases sub_cons h with ⟨a, xs, i, x, rfl, rfl, hx, h'⟩ | ⟨a, ks, xs, k, x, rfl, rfl, hx, h'⟩
    · cases q with
      | @row _ b _ ys l hh =>
        cases w with
        | row wx =>
          cases w' with
          | row wy =>
            obtain ⟨y, hy⟩ : ∃ y, ys[i]? = some y := ⟨_, List.getElem?_eq_getElem (by rw [← l]; exact (List.getElem?_eq_some_iff.mp hx).1)⟩
            obtain ⟨e', g1, g2⟩ := ih (wx x (List.mem_of_getElem? hx)) (wy y (List.mem_of_getElem? hy)) (hh i x y hx hy) h'
            exact ⟨e', by rw [sub_row hy]; exact g1, g2⟩
    · cases q with
      | @tab _ b _ ls _ ys p hh =>
        cases w with
        | tab wl wn wx =>
          cases w' with
          | tab wl' wn' wy =>
            obtain ⟨y, hy, hm⟩ := lookup_of_mem wl' (p.mem_iff.mp (mem_zip_lookup hx).1)
            obtain ⟨e', g1, g2⟩ := ih (wx x (mem_zip_lookup hx).2) (wy y hm) (hh k x y hx hy) h'
            exact ⟨e', by rw [sub_tab hy]; exact g1, g2⟩
theorem lookup_set {ks : List Str} {xs : List Dc} {k k' : Str} {x y z : Dc} (l : ks.length = xs.length) (n : ks.Nodup) (hx : (ks.zip xs).lookup k = some x) (h : (ks.zip (xs.set (ix ks k) y)).lookup k' = some z) : (k' = k ∧ z = y) ∨ (k' ≠ k ∧ (ks.zip xs).lookup k' = some z) := by
  have l2 : ks.length = (xs.set (ix ks k) y).length := by rw [List.length_set]; exact l
  have hz := lookup_ix l2 n h
  have hk := (mem_zip_lookup hx).1
  have hk' := (mem_zip_lookup h).1
  by_cases e : k' = k
  · subst e
    rw [List.getElem?_set_self (List.getElem?_eq_some_iff.mp (lookup_ix l n hx)).1] at hz
    exact .inl ⟨rfl, (Option.some.inj hz).symm⟩
  · right
    refine ⟨e, ?_⟩
    have hne : ix ks k ≠ ix ks k' := fun w => e (by have h1 := ix_get hk; have h2 := ix_get hk'; rw [w, h2] at h1; exact Option.some.inj h1)
    rw [List.getElem?_set_ne hne] at hz
    exact zip_at ks xs _ n (ix_get hk') hz
theorem Eqv.setP {us : List V} : ∀ {d d' e n n' : Dc}, d.Wf → d'.Wf → Eqv d d' → d.sub us = some e → Eqv n n' → Eqv (Dc.setP d us n) (Dc.setP d' us n') := by
  induction us with
  | nil => intro d d' e n n' _ _ _ _ q; cases d <;> cases d' <;> exact q
  | cons z r ih =>
    intro d d' e n n' w w' q h qn
    rcases sub_cons h with ⟨a, xs, i, x, rfl, rfl, hx, h'⟩ | ⟨a, ks, xs, k, x, rfl, rfl, hx, h'⟩
    · cases q with
      | @row _ b _ ys l hh =>
        cases w with
        | row wx =>
          cases w' with
          | row wy =>
            obtain ⟨y, hy⟩ : ∃ y, ys[i]? = some y := ⟨_, List.getElem?_eq_getElem (by rw [← l]; exact (List.getElem?_eq_some_iff.mp hx).1)⟩
            rw [setP_row hx, setP_row hy]
            refine .row (by rw [List.length_set, List.length_set]; exact l) fun j x1 y1 h1 h2 => ?_
            by_cases hij : i = j
            · subst hij
              rw [List.getElem?_set_self (List.getElem?_eq_some_iff.mp hx).1] at h1
              rw [List.getElem?_set_self (List.getElem?_eq_some_iff.mp hy).1] at h2
              cases h1; cases h2
              exact ih (wx x (List.mem_of_getElem? hx)) (wy y (List.mem_of_getElem? hy)) (hh i x y hx hy) h' qn
            · rw [List.getElem?_set_ne hij] at h1 h2
              exact hh j x1 y1 h1 h2
    · cases q with
      | @tab _ b _ ls _ ys p hh =>
        cases w with
        | tab wl wn wx =>
          cases w' with
          | tab wl' wn' wy =>
            obtain ⟨y, hy, hm⟩ := lookup_of_mem wl' (p.mem_iff.mp (mem_zip_lookup hx).1)
            have hx' := lookup_ix wl wn hx
            have hy' := lookup_ix wl' wn' hy
            rw [setP_tab hx', setP_tab hy']
            refine .tab p fun k2 x1 y1 h1 h2 => ?_
            rcases lookup_set wl wn hx h1 with ⟨rfl, rfl⟩ | ⟨ne, g1⟩
            · rcases lookup_set wl' wn' hy h2 with ⟨_, rfl⟩ | ⟨ne, _⟩
              · exact ih (wx x (mem_zip_lookup hx).2) (wy y hm) (hh k2 x y hx hy) h' qn
              · exact absurd rfl ne
            · rcases lookup_set wl' wn' hy h2 with ⟨e2, _⟩ | ⟨_, g2⟩
              · exact absurd e2 ne
              · exact hh k2 x1 y1 g1 g2
end Dc
end L2

set_option Elab.async false
set_option linter.all false
set_option maxRecDepth 100000
set_option maxHeartbeats 4000000
namespace L2
open PySem PySem.Spec PyProof.Rows
namespace Dc
theorem zip_snoc {ks : List Str} {xs : List Dc} (l : ks.length = xs.length) {k k' : Str} {v : Dc} (hk : k ∉ ks) : ((ks ++ [k]).zip (xs ++ [v])).lookup k' = if k' = k then some v else (ks.zip xs).lookup k' := by
  rw [List.zip_append l]
  induction ks generalizing xs with
  | nil =>
    cases xs with
    | cons _ _ => simp at l
    | nil =>
      by_cases e : k' = k
      · subst e; simp
      · have : (k' == k) = false := by simpa using e
        simp [List.lookup_cons, this, e]
  | cons y r ih =>
    cases xs with
    | nil => simp at l
    | cons x t =>
      simp only [List.zip_cons_cons, List.cons_append, List.lookup_cons]
      by_cases e : k' = y
      · subst e
        have ne : k' ≠ k := fun z => hk (by rw [← z]; exact List.mem_cons_self)
        rw [if_neg ne]
        simp
      · have : (k' == y) = false := by simpa using e
        rw [this]
        exact ih (by simpa using l) fun z => hk (List.mem_cons_of_mem _ z)
theorem insN_wf {e v : Dc} {z : V} (we : e.Wf) (wv : v.Wf) (h : e.room z = true) : (insN e z v).Wf := by
  rcases room_cases h with ⟨a, xs, i, rfl, rfl, hi⟩ | ⟨a, ks, xs, k, rfl, rfl, hk⟩
  · cases we with
    | row wx =>
      refine .row fun y hy => ?_
      rcases List.mem_append.mp hy with hy | hy
      · exact wx y (List.mem_of_mem_take hy)
      · rcases List.mem_cons.mp hy with rfl | hy
        · exact wv
        · exact wx y (List.mem_of_mem_drop hy)
  · cases we with
    | tab wl wn wx =>
      refine .tab (by simp [wl]) (nd_snoc wn hk) fun y hy => ?_
      rcases List.mem_append.mp hy with hy | hy
      · exact wx y hy
      · rw [List.mem_singleton.mp hy]; exact wv
theorem insN_size {e v : Dc} {z : V} (h : e.room z = true) : (insN e z v).size = e.size + v.size := by
  rcases room_cases h with ⟨a, xs, i, rfl, rfl, hi⟩ | ⟨a, ks, xs, k, rfl, rfl, hk⟩
  · simp only [insN, size, sizeL_append, sizeL]
    have := take_drop_size xs ((i : Int).toNat)
    omega
  · simp only [insN, size, sizeL_append, sizeL]
    omega
theorem Eqv.room {e e' : Dc} {z : V} (q : Eqv e e') : e.room z = e'.room z := by
  cases q with
  | leaf v => rfl
  | row l h => cases z <;> simp [Dc.room, l]
  | tab p h =>
    cases z with
    | str k => simp only [Dc.room, List.contains_eq_mem, p.mem_iff]
    | _ => rfl
theorem Eqv.insN {e e' v v' : Dc} {z : V} (we : e.Wf) (we' : e'.Wf) (h : e.room z = true) (q : Eqv e e') (qv : Eqv v v') : Eqv (Dc.insN e z v) (Dc.insN e' z v') := by
  rcases room_cases h with ⟨a, xs, i, rfl, rfl, hi⟩ | ⟨a, ks, xs, k, rfl, rfl, hk⟩
  · cases q with
    | @row _ b _ ys l hh =>
      simp only [Dc.insN, Int.toNat_natCast]
      refine .row (by simp [l]) fun j x y h1 h2 => ?_
      have lt : (xs.take i).length = i := by rw [List.length_take]; omega
      have lt' : (ys.take i).length = i := by rw [List.length_take]; omega
      by_cases hj : j < i
      · rw [List.getElem?_append_left (by omega), List.getElem?_take_of_lt hj] at h1
        rw [List.getElem?_append_left (by omega), List.getElem?_take_of_lt hj] at h2
        exact hh j x y h1 h2
      · rw [List.getElem?_append_right (by omega), lt] at h1
        rw [List.getElem?_append_right (by omega), lt'] at h2
        cases hji : j - i with
        | zero =>
          rw [hji] at h1 h2
          simp at h1 h2
          subst h1 h2
          exact qv
        | succ m =>
          rw [hji] at h1 h2
          simp only [List.getElem?_cons_succ, List.getElem?_drop] at h1 h2
          exact hh _ x y h1 h2
  · cases q with
    | @tab _ b _ ls _ ys p hh =>
      cases we with
      | tab wl wn wx =>
        cases we' with
        | tab wl' wn' wy =>
          simp only [Dc.insN]
          refine .tab (p.append_right _) fun k' x y h1 h2 => ?_
          rw [zip_snoc wl hk] at h1
          rw [zip_snoc wl' (fun z => hk (p.mem_iff.mpr z))] at h2
          by_cases ek : k' = k
          · rw [if_pos ek] at h1 h2
            cases h1; cases h2
            exact qv
          · rw [if_neg ek] at h1 h2
            exact hh k' x y h1 h2
end Dc
end L2

set_option Elab.async false
set_option linter.all false
set_option maxRecDepth 100000
set_option maxHeartbeats 4000000
namespace L2
open PySem PySem.Spec PyProof.Rows
theorem Fresh.edit {H H2 H3 : Hp} {t e n : Dc} {us : List V} {b : Addr} (F : Fresh H H2 t) (hs : t.sub us = some e) (ev : e.val = .ref b) (bn : b ∈ e.addrs) (nv : n.val = .ref b) (nat : n.At H3) (kp : ∀ a o, a ≠ b → H2 a = some o → H3 a = some o) (nnd : n.addrs.Nodup)
    (nown : ∀ c ∈ n.addrs, ∀ o u, H3 c ≠ some (.frz o u)) (nin : ∀ c ∈ n.addrs, c ∈ e.addrs ∨ (c ∉ t.addrs ∧ H c = none)) : Fresh H H3 (t.setP us n) := by
  have P := Dc.PartOf.sub hs
  have bt := P.addrs b bn
  have wt := Dc.at_wf t F.at_
  obtain ⟨l, r, e1, e2⟩ := Dc.setP_addrs (n := n) wt F.nd hs
  have nd := F.nd
  rw [e1] at nd
  obtain ⟨nd1, nd2, nd3⟩ := List.nodup_append.mp nd
  obtain ⟨nd4, nd5, nd6⟩ := List.nodup_append.mp nd1
  have mt : ∀ c, c ∈ t.addrs ↔ (c ∈ l ∨ c ∈ e.addrs) ∨ c ∈ r := fun c => by rw [e1, List.mem_append, List.mem_append]
  refine ⟨fun a o h => kp a o (ne_of_none h (F.new b bt)) (F.same a o h), Dc.setP_at F.nd hs (nv.trans ev.symm) nat (fun a ha he o h => kp a o (fun z => he (by rw [z]; exact bn)) h) F.at_, ?_, fun c hc => ?_, fun c hc => ?_⟩
  · rw [e2]
    refine List.nodup_append.mpr ⟨List.nodup_append.mpr ⟨nd4, nnd, fun x hx y hy z => ?_⟩, nd2, fun x hx y hy z => ?_⟩
    · subst z
      rcases nin x hy with h | h
      · exact nd6 x hx x h rfl
      · exact h.1 ((mt x).mpr (.inl (.inl hx)))
    · subst z
      rcases List.mem_append.mp hx with hx | hx
      · exact nd3 x (List.mem_append_left _ hx) x hy rfl
      · rcases nin x hx with h | h
        · exact nd3 x (List.mem_append_right _ h) x hy rfl
        · exact h.1 ((mt x).mpr (.inr hy))
  · rw [e2, List.mem_append, List.mem_append] at hc
    have old : c ∈ t.addrs → c ≠ b → ∀ o u, H3 c ≠ some (.frz o u) := fun h1 h2 => frz_up (Dc.there F.at_ h1) (F.own c h1) (fun o => kp c o h2)
    rcases hc with (hc | hc) | hc
    · exact old ((mt c).mpr (.inl (.inl hc))) fun z => nd6 c hc c (by rw [z]; exact bn) rfl
    · exact nown c hc
    · exact old ((mt c).mpr (.inr hc)) fun z => nd3 c (List.mem_append_right _ (by rw [z]; exact bn)) c hc rfl
  · rw [e2, List.mem_append, List.mem_append] at hc
    rcases hc with (hc | hc) | hc
    · exact F.new c ((mt c).mpr (.inl (.inl hc)))
    · rcases nin c hc with h | h
      · exact F.new c (P.addrs c h)
      · exact h.2
    · exact F.new c ((mt c).mpr (.inr hc))
namespace Dc
theorem insN_addrs {e v : Dc} {z : V} (h : e.room z = true) : (insN e z v).addrs.Perm (e.addrs ++ v.addrs) := by
  rcases room_cases h with ⟨a, xs, i, rfl, rfl, hi⟩ | ⟨a, ks, xs, k, rfl, rfl, hk⟩
  · simp only [insN, addrs, addrsL_append, addrsL, List.cons_append]
    have e1 : addrsL xs = addrsL (xs.take ((i : Int).toNat)) ++ addrsL (xs.drop ((i : Int).toNat)) := by rw [← addrsL_append, List.take_append_drop]
    rw [e1, List.append_assoc]
    exact ((List.perm_append_comm).append_left _).cons _
  · simp only [insN, addrs, addrsL_append, addrsL, List.cons_append, List.append_nil]
    exact .refl _
end Dc
inductive spHoldsI (vs : List V) (H : Hp) (Q : VK) (u3_ : XK) : Prop
  | mk (d : Dc) (z : V) (x0 : vs = [d.val, z]) (x1 : d.At H) (x2 : Dc.StepV z) (x3 : Q (.bl (d.sub [z]).isSome) H) : spHoldsI  vs H Q u3_
def spHolds : Sp := fun vs H Q u3_ => spHoldsI  vs H Q u3_
inductive spFoundI (vs : List V) (H : Hp) (Q : VK) (u3_ : XK) : Prop
  | mk (d : Dc) (t : Addr) (xs : List V) (e : Dc) (x0 : vs = [d.val, .ref t]) (x1 : d.At H) (x2 : H t = some (.tup xs)) (x3 : (∀ z ∈ xs, Dc.StepV z)) (x4 : d.sub xs = some e) (x5 : Q e.val H) : spFoundI  vs H Q u3_
def spFound : Sp := fun vs H Q u3_ => spFoundI  vs H Q u3_
inductive spHolderI (vs : List V) (H : Hp) (Q : VK) (u3_ : XK) : Prop
  | mk (d : Dc) (t : Addr) (us : List V) (lv : V) (e : Dc) (x0 : vs = [d.val, .ref t]) (x1 : d.At H) (x2 : H t = some (.tup (us ++ [lv]))) (x3 : (∀ z ∈ us ++ [lv], Dc.StepV z)) (x4 : d.sub us = some e) (x5 : ∀ H', Same H H' → Q e.val H') : spHolderI  vs H Q u3_
inductive spFullI (vs : List V) (H : Hp) (Q : VK) (u3_ : XK) : Prop
  | mk (d : Dc) (t : Addr) (us : List V) (lv : V) (e : Dc) (x : Dc) (x0 : vs = [d.val, .ref t]) (x1 : d.At H) (x2 : H t = some (.tup (us ++ [lv]))) (x3 : (∀ z ∈ us ++ [lv], Dc.StepV z)) (x4 : d.sub us = some e) (x5 : e.sub [lv] = some x) (x6 : ∀ H', Same H H' → Q e.val H') : spFullI  vs H Q u3_
inductive spRoomI (vs : List V) (H : Hp) (Q : VK) (u3_ : XK) : Prop
  | mk (d : Dc) (z : V) (x0 : vs = [d.val, z]) (x1 : d.At H) (x2 : Dc.StepV z) (x3 : Q (.bl (d.room z)) H) : spRoomI  vs H Q u3_
def spRoom : Sp := fun vs H Q u3_ => spRoomI  vs H Q u3_
inductive spPutI (vs : List V) (H : Hp) (Q : VK) (u3_ : XK) : Prop
  | mk (d : Dc) (v : Dc) (t : Addr) (us : List V) (lv : V) (e : Dc) (x0 : vs = [d.val, .ref t, v.val]) (x1 : d.At H) (x2 : d.slim) (x3 : d.size ≤ 800) (x4 : v.At H) (x5 : v.slim) (x6 : v.size ≤ 900) (x7 : H t = some (.tup (us ++ [lv]))) (x8 : (∀ z ∈ us ++ [lv], Dc.StepV z)) (x9 : d.sub us = some e) (x10 : e.room lv = true) (x11 : ∀ (d' : Dc) (H' : Hp), Fresh H H' d' → Dc.Eqv (d.setP us (e.insN lv v)) d' → Q d'.val H') : spPutI  vs H Q u3_
inductive spTakenI (vs : List V) (H : Hp) (Q : VK) (u3_ : XK) : Prop
  | mk (d : Dc) (t : Addr) (us : List V) (lv : V) (e : Dc) (x : Dc) (x0 : vs = [d.val, .ref t]) (x1 : d.At H) (x2 : d.slim) (x3 : d.size ≤ 900) (x4 : H t = some (.tup (us ++ [lv]))) (x5 : (∀ z ∈ us ++ [lv], Dc.StepV z)) (x6 : d.sub us = some e) (x7 : e.sub [lv] = some x) (x8 : ∀ (q : Addr) (d' x' : Dc) (H' : Hp), FreshL H H' [d', x'] → H' q = some (.tup [d'.val, x'.val]) → Dc.Eqv (d.setP us (e.delN lv)) d' → Dc.Eqv x x' → Q (.ref q) H') : spTakenI  vs H Q u3_
inductive spLeaf2I (vs : List V) (H : Hp) (Q : VK) (u3_ : XK) : Prop
  | mk (c : Int) (k : Nat) (x0 : vs = [.int c, .int (k : Int)]) (x1 : k ≤ 1000) (x2 : ∀ v H', LeafV v → Same H H' → Q v H') : spLeaf2I  vs H Q u3_
def spLeaf2 : Sp := fun vs H Q u3_ => spLeaf2I  vs H Q u3_
inductive spNames1I (vs : List V) (H : Hp) (Q : VK) (u3_ : XK) : Prop
  | mk (c : Int) (x0 : vs = [.int c]) (x1 : ∀ (p : Addr) (ys : List Str) (H' : Hp), Same H H' → H p = none → H' p = some (.lst (ys.map V.str)) → ys.length = 6 → ys.Nodup → (∀ y ∈ ys, nameB y = true) → Q (.ref p) H') : spNames1I  vs H Q u3_
def spNames1 : Sp := fun vs H Q u3_ => spNames1I  vs H Q u3_
def LetS (n : Nat) (v : V) : Prop := ∃ x : Str, v = .str x ∧ x.length = n ∧ (sgn x).all isL = true
theorem letS_list {n : Nat} : ∀ ys : List V, (∀ y ∈ ys, LetS n y) → ∃ zs : List Str, ys = zs.map V.str ∧ (zs.map (·.length)).sum = n * ys.length ∧ ((zs.map sgn).flatten).length = n * ys.length ∧ ((zs.map sgn).flatten).all isL = true
  | [], _ => ⟨[], rfl, rfl, rfl, rfl⟩
  | y :: r, h => by
    obtain ⟨x, e, hl, ha⟩ := h y List.mem_cons_self
    obtain ⟨zs, e2, h2, h3, h4⟩ := letS_list r fun z hz => h z (List.mem_cons_of_mem _ hz)
    have hx : (sgn x).length = n := by rw [sgn_length]; exact hl
    refine ⟨x :: zs, by rw [e, e2]; rfl, ?_, ?_, ?_⟩
    · rw [List.map_cons, List.sum_cons, h2, hl, List.length_cons, Nat.mul_succ]; omega
    · rw [List.map_cons, List.flatten_cons, List.length_append, h3, hx, List.length_cons, Nat.mul_succ]; omega
    · rw [List.map_cons, List.flatten_cons, List.all_append, ha, h4]; rfl
end L2
namespace L2
open PySem PySem.Spec PyProof.Rows
section
variable {X : Cx} {CX : CXT} {k : Nat} {f : Addr} {fd : FuncData} {ps : List Str} {ds : List Value} {dvs : List V} {sp : Sp} {E : XK} {x : Str} {p pos : Pos} {e : Expr} {es : List Expr} {t : TA} {tf : TE}
end
inductive spGatheredI (fI : Addr) (vs : List V) (H : Hp) (Q : VK) (u3_ : XK) : Prop
  | mk (d : Dc) (x0 : vs = [d.val, .ref fI]) (x1 : d.At H) (x2 : d.slim) (x3 : d.size ≤ 900) (x4 : ∀ (p : Addr) (ws : List Dc) (H' : Hp), Same H H' → H p = none → H' p = some (.lst (ws.map Dc.val)) → ws.length = d.size → Q (.ref p) H') : spGatheredI fI vs H Q u3_
end L2

set_option Elab.async false
set_option linter.all false
set_option maxRecDepth 100000
set_option maxHeartbeats 4000000
namespace L2
open PySem PySem.Spec PyProof.Rows
namespace Dc
theorem sub_cons_none {d : Dc} {z : V} {r : List V} (h : d.sub [z] = none) : d.sub (z :: r) = none := by
  cases q : d.sub (z :: r) with
  | none => rfl
  | some e =>
    rcases sub_cons q with ⟨a, xs, i, x, rfl, rfl, hx, _⟩ | ⟨a, ks, xs, k, x, rfl, rfl, hx, _⟩
    · rw [sub_row hx, sub_nil] at h
      cases h
    · rw [sub_tab hx, sub_nil] at h
      cases h
end Dc
section
variable {X : Cx}
inductive r_op_neTI (K : PySem.W.Frag) (x : V) (y : V) (H : Hp) (Q : VK) : Prop
  | mk (a : Addr) (b : Addr) (xs : List V) (ys : List V) (h0_ : x = .ref a) (h1_ : y = .ref b) (h2_ : SqT K H a xs) (h3_ : SqT K H b ys) (h4_ : (∀ z ∈ xs, flatV z = true)) (h5_ : (∀ z ∈ ys, flatV z = true)) (h6_ : Q (.bl (!eqTs xs ys)) H) : r_op_neTI K x y H Q
end
theorem eqTs_nil (zs : List V) : eqTs zs [] = decide (zs = []) := by
  unfold eqTs
  cases zs with
  | nil => rfl
  | cons z r => simp
inductive spAlikeEI (n : Nat) (vs : List V) (H : Hp) (Q : VK) (u3_ : XK) : Prop
  | mk (d : Dc) (e : Dc) (x0 : vs = [d.val, e.val]) (x1 : d.At H) (x2 : e.At H) (x3 : Dc.Eqv d e) (x4 : d.size ≤ 63) (x5 : d.deep ≤ n) (x6 : ∀ H', Same H H' → Q (.bl true) H') : spAlikeEI n vs H Q u3_
def spAlikeE (n : Nat) : Sp := fun vs H Q u3_ => spAlikeEI n vs H Q u3_
inductive spPutBackI (vs : List V) (H : Hp) (Q : VK) (u3_ : XK) : Prop
  | mk (d : Dc) (t : Addr) (us : List V) (lv : V) (e : Dc) (x : Dc) (x0 : vs = [d.val, .ref t]) (x1 : d.At H) (x2 : d.size ≤ 40) (x3 : H t = some (.tup (us ++ [lv]))) (x4 : (∀ z ∈ us ++ [lv], Dc.StepV z)) (x5 : d.sub us = some e) (x6 : e.sub [lv] = some x) (x7 : ∀ H', Same H H' → Q (.bl true) H') : spPutBackI  vs H Q u3_
inductive spTakenBackI (vs : List V) (H : Hp) (Q : VK) (u3_ : XK) : Prop
  | mk (d : Dc) (v : Dc) (t : Addr) (us : List V) (lv : V) (e : Dc) (x0 : vs = [d.val, .ref t, v.val]) (x1 : d.At H) (x2 : d.size ≤ 40) (x3 : v.At H) (x4 : v.size ≤ 10) (x5 : H t = some (.tup (us ++ [lv]))) (x6 : (∀ z ∈ us ++ [lv], Dc.StepV z)) (x7 : d.sub us = some e) (x8 : e.room lv = true) (x9 : ∀ H', Same H H' → Q (.bl true) H') : spTakenBackI  vs H Q u3_
inductive spBehindI (vs : List V) (H : Hp) (Q : VK) (u3_ : XK) : Prop
  | mk (d : Dc) (t : Addr) (n : Addr) (us : List V) (ys : List Str) (e : Dc) (x0 : vs = [d.val, .ref t, .ref n]) (x1 : d.At H) (x2 : d.size ≤ 40) (x3 : H t = some (.tup us)) (x4 : (∀ z ∈ us, Dc.StepV z)) (x5 : us.length ≤ 40) (x6 : d.sub us = some e) (x7 : H n = some (.lst (ys.map V.str))) (x8 : ys.length = 6) (x9 : (∀ y ∈ ys, nameB y = true)) (x10 : ∀ (p : Addr) (ps : List Addr) (H' : Hp), Same H H' → H' p = some (.lst (ps.map V.ref)) → (∀ q ∈ ps, ∃ z, H' q = some (.tup (us ++ [z])) ∧ Dc.StepV z ∧ e.room z = true) → Q (.ref p) H') : spBehindI  vs H Q u3_
inductive spValueI (vs : List V) (H : Hp) (Q : VK) (u3_ : XK) : Prop
  | mk (c : Int) (n : Addr) (ys : List Str) (x0 : vs = [.int c, .ref n]) (x1 : H n = some (.lst (ys.map V.str))) (x2 : ys.length = 6) (x3 : ys.Nodup) (x4 : ∀ (v : Dc) (H' : Hp), Same H H' → v.At H' → v.size ≤ 10 → Q v.val H') : spValueI  vs H Q u3_
def spValue : Sp := fun vs H Q u3_ => spValueI  vs H Q u3_
end L2

set_option Elab.async false
set_option linter.all false
set_option maxRecDepth 100000
set_option maxHeartbeats 4000000
namespace L2
open PySem PySem.Spec PyProof.Rows
structure Stp (S fr : List Addr) (h h' : Heap) : Prop where
  keep : ∀ b o, h.get? b = some o → b ∉ S → b ∉ fr → h'.get? b = some o
  slot : ∀ b o, h.get? b = some o → b ∈ fr → ∃ sl, h'.get? b = some { o with slots := sl }
section
variable {M : Model} {A : Around} {E : Value → Shared → Prop} {s : Shared} {base : Heap} {env : Env} {outer : List Env} {L e : Addr} {oe : Obj} {vs : Array Value} {Q : Unit → Shared → Prop}
structure Entry (h : Heap) (T : Addr) (v : Value) : Prop where
  ex : ∃ oT ts, h.get? T = some oT ∧ oT.data = .fields ts ∧ ts[3]? = some v
theorem entryX {head : Value} {hadNext : Bool} (hfr : A.frames = some (env :: outer)) (hl : s.heap.FunFrames base (env :: outer)) (hf : env.frame = some L) (he : s.heap.get? e = some oe) (hd : oe.data = .fields vs) (hsz : 1 < vs.size)
    (h : ∀ h' T, Stp [e] (frs (env :: outer)) s.heap h' → s.heap.get? T = none → h'.get? e = some (oe.mapFields (·.setIfInBounds 1 (.ref T))) → Entry h' T (rawInt L) → Q () { s with heap := h' }) :
    wpAny M A (do let a ← frameOf env; let pl ← entryPlaceOf L hadNext; let b ← EntryCells.newEntry head a .none (rawInt L) .none pl; setField (.ref e) 1 b) Q E s := by
  have hene : e ∉ (env :: outer).filterMap (·.frame) := fun hm => by
    obtain ⟨_, o, ho, hnf⟩ := hl.mem hm
    rw [he] at ho
    cases ho
    exact hnf vs hd
  refine wpAny_bind (wpAny_frameOf_fun hfr hl hf fun h₁ hs₁ => ?_)
  refine wpAny_bind (wpAny_entryPlaceOf fun pl hpl => ?_)
  unfold EntryCells.newEntry newFields
  refine wpAny_bind (wpAny_newObj_type ?_ (hpl.sizeOk5 _ _ _ _ _))
  have he₁ : h₁.get? e = some oe := (hs₁.2.1 e hene).trans he
  obtain ⟨oT, hoT⟩ : ∃ oT : Obj, oT = { cls := .type "traceback", dict := none, data := .fields ([head, .ref L, .none, rawInt L, .none] ++ (if pl.isEmpty then List.replicate 6 Value.none else pl)).toArray } := ⟨_, rfl⟩
  rw [← hoT]
  have he₂ := Heap.get?_push_of_some (h := h₁) oT he₁
  refine wpAny_setField he₂ hd hsz (h _ h₁.objs.size ⟨fun b o q hS hfr' => ?_, fun b o q hb => ?_⟩ ?_ ?_ ⟨oT, _, ?_, by rw [hoT], ?_⟩)
  · rw [Heap.get?_update_other _ _ (fun z => hS (by rw [← z]; simp))]
    exact Heap.get?_push_of_some _ ((hs₁.2.1 b hfr').trans q)
  · obtain ⟨sl, z⟩ := hs₁.2.2 b o q
    refine ⟨sl, ?_⟩
    rw [Heap.get?_update_other _ _ (fun z => hene (by rw [z]; exact hb))]
    exact Heap.get?_push_of_some _ z
  · exact Heap.get?_none_of_le (by rw [hs₁.1]; exact Nat.le_refl _)
  · exact Heap.get?_update_self _ he₂ (Obj.isFreed_of_fields (Obj.data_mapFields hd _))
  · rw [Heap.get?_update_other _ _ (Nat.ne_of_lt (Heap.lt_size he₁))]
    exact Heap.get?_push_size h₁ (by rw [hoT]; rfl)
  · simp
theorem landX {T : Addr} {v : Value} (he : s.heap.get? e = some oe) (hd : oe.data = .fields vs) (h1 : vs[1]? = some (.ref T)) (hT : Entry s.heap T v)
    (h : ∀ h', (∀ b, b ≠ T → h'.get? b = s.heap.get? b) → Entry h' T .none → Q () { s with heap := h' }) : wpAny M A (setFlight (.ref e) none) Q E s := by
  obtain ⟨oT, ts, g1, g2, g3⟩ := hT.ex
  have hsz : 3 < ts.size := (Array.getElem?_eq_some_iff.mp g3).1
  unfold setFlight
  refine wpAny_bind (wpAny_field he hd h1 ?_)
  rw [if_pos (show (Value.ref T != Value.none) = true from by simp)]
  refine wpAny_setField g1 g2 hsz (h _ (fun b hb => Heap.get?_update_other _ _ (Ne.symm hb)) ⟨_, _, Heap.get?_update_self _ g1 (Obj.isFreed_of_fields (Obj.data_mapFields g2 _)), Obj.data_mapFields g2 _, ?_⟩)
  simp [hsz]
theorem noteX {S : List Addr} (hfr : A.frames = some (env :: outer)) (hl : s.heap.FunFrames base (env :: outer)) (hf : env.frame = some L) (he : s.heap.get? e = some oe) (hd : oe.data = .fields vs) (hsz : 1 < vs.size)
    (hc : (vs[1]? = some .none ∧ S = []) ∨ ∃ T0, vs[1]? = some (.ref T0) ∧ T0 ≠ e ∧ Entry s.heap T0 .none ∧ S = [T0])
    (h : ∀ h' T, Stp (e :: S) (frs (env :: outer)) s.heap h' → s.heap.get? T = none → h'.get? e = some (oe.mapFields (·.setIfInBounds 1 (.ref T))) → Entry h' T (rawInt L) → Q () { s with heap := h' }) :
    wpAny M A (noteFrame (.ref e) env) Q E s := by
  unfold noteFrame
  simp only [hf]
  rcases hc with ⟨h1, rfl⟩ | ⟨T0, h1, ne, hT, rfl⟩
  · refine wpAny_bind (wpAny_field he hd h1 ?_)
    rw [if_neg (by decide)]
    exact entryX hfr hl hf he hd hsz h
  · obtain ⟨oT, ts, g1, g2, g3⟩ := hT.ex
    refine wpAny_bind (wpAny_field he hd h1 ?_)
    rw [if_pos (show (Value.ref T0 != Value.none) = true from by simp)]
    refine wpAny_bind (wpAny_field g1 g2 g3 ?_)
    rw [if_neg (show ¬ ((Value.none == rawInt L) = true) from by simp [rawInt])]
    refine wpAny_bind (wpAny_setField g1 g2 (Array.getElem?_eq_some_iff.mp g3).1 ?_)
    have other : ∀ b, b ≠ T0 → (s.heap.update T0 (Obj.mapFields (·.setIfInBounds 3 Value.none))).get? b = s.heap.get? b := fun b hb => Heap.get?_update_other _ _ (Ne.symm hb)
    have noF : ∀ b o, s.heap.get? b = some o → (∀ vs, o.data ≠ .fields vs) → b ≠ T0 := fun b o hb hnf q => by
      rw [q, g1] at hb
      cases hb
      exact hnf ts g2
    refine entryX (s := { s with heap := s.heap.update T0 (Obj.mapFields (·.setIfInBounds 3 Value.none)) }) hfr (hl.of_keeps fun b o hb hnf => ⟨o, (other b (noF b o hb hnf)).trans hb, rfl⟩) hf ((other e (Ne.symm ne)).trans he) hd hsz fun h' T st n1 n2 n3 => ?_
    refine h h' T ⟨fun b o q hS hfr' => ?_, fun b o q hb => ?_⟩ ?_ n2 n3
    · have hb : b ≠ T0 := fun z => hS (by rw [z]; simp)
      exact st.keep b o ((other b hb).trans q) (fun z => hS (by rw [List.mem_singleton.mp z]; simp)) hfr'
    · obtain ⟨_, o', z, nf⟩ := hl.mem hb
      rw [q] at z
      cases z
      exact st.slot b o ((other b (noF b o q nf)).trans q) hb
    · cases z : s.heap.get? T with
      | none => rfl
      | some o =>
        by_cases hz : T = T0
        · rw [hz, Heap.get?_update_self _ g1 (Obj.isFreed_of_fields (Obj.data_mapFields g2 _))] at n1
          cases n1
        · rw [other T hz, z] at n1
          cases n1
theorem leaveX {S : List Addr} (hfr : A.frames = some (env :: outer)) (hl : s.heap.FunFrames base (env :: outer)) (hf : env.frame = some L) (he : s.heap.get? e = some oe) (hd : oe.data = .fields vs) (hsz : 1 < vs.size)
    (hc : (vs[1]? = some .none ∧ S = []) ∨ ∃ T0, vs[1]? = some (.ref T0) ∧ T0 ≠ e ∧ Entry s.heap T0 .none ∧ S = [T0])
    (h : ∀ h' T, Stp (e :: S) (frs (env :: outer)) s.heap h' → s.heap.get? T = none → h'.get? e = some (oe.mapFields (·.setIfInBounds 1 (.ref T))) → Entry h' T .none → Q () { s with heap := h' }) :
    wpAny M A (leaving env (.ref e)) Q E s := by
  unfold leaving
  refine wpAny_bind (noteX hfr hl hf he hd hsz hc fun h1 T st n1 n2 n3 => ?_)
  have hTe : e ≠ T := fun z => by rw [← z, he] at n1; cases n1
  refine landX (s := { s with heap := h1 }) n2 (Obj.data_mapFields hd _) (T := T) (by simp [hsz]) n3 fun h2 k1 k2 => ?_
  refine h h2 T ⟨fun b o q hS hfr' => ?_, fun b o q hb => ?_⟩ n1 ((k1 e hTe).trans n2) k2
  · exact (k1 b (fun z => by rw [z, n1] at q; cases q)).trans (st.keep b o q hS hfr')
  · obtain ⟨sl, z⟩ := st.slot b o q hb
    exact ⟨sl, (k1 b (fun z => by rw [z, n1] at q; cases q)).trans z⟩
end
end L2

set_option Elab.async false
set_option linter.all false
set_option maxRecDepth 100000
set_option maxHeartbeats 4000000
namespace L2
open PySem PySem.Spec PyProof.Rows
section
variable {P : Program} {w : World} {H H' : Hp} {h h' h0 : Heap} {a e T C : Addr} {o : HO}
theorem ObjOk.some (x : ObjOk P w H h a o) : ∃ u, h.get? a = some u := by
  cases o with
  | lst xs => obtain ⟨_, _, _, _, e⟩ := x; exact ⟨_, e⟩
  | tup xs => obtain ⟨_, _, _, ob, e, _⟩ := x; exact ⟨_, e⟩
  | dK kvs => obtain ⟨_, _, _, _, o, _, _, e, _⟩ := x; exact ⟨_, e⟩
  | dT kvs => obtain ⟨_, _, _, _, o, _, _, e, _⟩ := x; exact ⟨_, e⟩
  | set S n => obtain ⟨o, _, _, _, e, _⟩ := x; exact ⟨_, e⟩
  | ins C dx fs => obtain ⟨_, _, _, e, _⟩ := x; exact ⟨_, e⟩
  | own y => obtain ⟨_, e⟩ := x; exact ⟨_, e⟩
  | xd fs => obtain ⟨_, ⟨_, _, _, e, _⟩, _⟩ := x; exact ⟨_, e⟩
  | rng lo hi => obtain ⟨_, _, _, e⟩ := x; exact ⟨_, e⟩
  | frz ob u => obtain ⟨e, _⟩ := x; exact ⟨_, e⟩
  | tbl ps => exact ⟨_, (show h.get? a = some _ from x)⟩
  | met f y => exact ⟨_, (show h.get? a = some _ from x)⟩
  | ext φ => obtain ⟨_, ⟨_, e⟩, _⟩ := x; exact ⟨_, e⟩
theorem HOk.none_of (x : HOk P w H h) (n : h.get? a = none) : H a = none := by
  cases q : H a with
  | none => rfl
  | some u =>
    obtain ⟨ob, e⟩ := (x a u q).some
    rw [n] at e
    cases e
theorem Un.stp {fs S fr : List Addr} (u : Un fs [] H H' h0 h) (t : Stp S fr h h') (hS : ∀ b ∈ S, h0.get? b = none) (hf : ∀ b ∈ fr, b ∈ fs ∨ h0.get? b = none) : Un fs [] H H' h0 h' := by
  have nS : ∀ {b o}, h0.get? b = some o → b ∉ S := fun q z => by rw [hS _ z] at q; cases q
  refine ⟨fun b o q n hb hx => ?_, fun b o q n hb hx => ?_, u.free, fun b o q hx => ?_, u.tups, u.frzs, u.tbls⟩
  · refine t.keep b o (u.keep b o q n hb hx) (nS q) fun z => ?_
    rcases hf b z with z | z
    · exact hb z
    · rw [z] at q; cases q
  · obtain ⟨sl, e⟩ := u.slot b o q n hb hx
    by_cases hz : b ∈ fr
    · obtain ⟨sl', e'⟩ := t.slot b _ e hz
      exact ⟨sl', e'⟩
    · exact ⟨sl, t.keep b _ e (nS q) hz⟩
  · obtain ⟨o', e⟩ := u.there b o q hx
    by_cases hz : b ∈ fr
    · obtain ⟨sl', e'⟩ := t.slot b _ e hz
      exact ⟨_, e'⟩
    · exact ⟨o', t.keep b _ e (nS q) hz⟩
theorem HOk.stp {S fr : List Addr} (x : HOk P w H h) (t : Stp S fr h h') (hS : ∀ b ∈ S, H b = none) (hf : ∀ b ∈ fr, H b = none) : HOk P w H h' := fun a o q =>
  (x a o q).stay (fun b u hb e => t.keep b u e
    (fun z => by rcases hb with rfl | hb; · rw [hS _ z] at q; cases q
                 · rw [hS _ z] at hb; cases hb)
    (fun z => by rcases hb with rfl | hb; · rw [hf _ z] at q; cases q
                 · rw [hf _ z] at hb; cases hb)) (fun _ q => q) fun _ _ q => q
structure Fly (H : Hp) (h0 h : Heap) (e C : Addr) (oe : Obj) (vs : Array Value) (T : Addr) : Prop where
  at_ : h.get? e = some oe
  cls : oe.cls = .ref C
  dict : oe.dict = none
  data : oe.data = .fields vs
  sz : 1 < vs.size
  one : vs[1]? = some (.ref T)
  ne : T ≠ e
  ent : Entry h T .none
  He : H e = none
  HT : H T = none
  ne0 : h0.get? e = none
  nT0 : h0.get? T = none
def CX1 (P : Program) (w : World) : CXT := fun outer H s E e s' => ∃ (e0 C : Addr) (H' : Hp), e = .ref e0 ∧ s'.os = s.os ∧ AllBare s'.gens ∧ Un (frs outer) [] H H' s.heap s'.heap ∧ HOk P w H' s'.heap ∧ (∃ oe vs T, Fly H' s.heap s'.heap e0 C oe vs T) ∧ E (.ref C) none H'
theorem Fly.next {oe : Obj} {vs : Array Value} {T' : Addr} (cls : oe.cls = .ref C) (dict : oe.dict = none) (data : oe.data = .fields vs) (sz : 1 < vs.size) (he : H e = none) (he0 : h0.get? e = none) (hok : HOk P w H h) (th : ∀ b o, h0.get? b = some o → ∃ o', h.get? b = some o') (hT : h.get? T' = none) (hin : ∃ o, h.get? e = some o)
    (h1 : h'.get? e = some (oe.mapFields (·.setIfInBounds 1 (.ref T')))) (h2 : Entry h' T' .none) : ∃ oe vs T, Fly H h0 h' e C oe vs T := by
  have n0 : h0.get? T' = none := by
    cases z : h0.get? T' with
    | none => rfl
    | some o =>
      obtain ⟨o', e'⟩ := th T' o z
      rw [hT] at e'
      cases e'
  refine ⟨_, _, T', h1, (Obj.cls_mapFields _ _).trans cls, ?_, Obj.data_mapFields data _, by simpa using sz, by simp [sz], fun z => ?_, h2, he, hok.none_of hT, he0, n0⟩
  · obtain ⟨c, d, dt, sl⟩ := oe
    cases data
    exact dict
  · obtain ⟨o, q⟩ := hin
    rw [← z, hT] at q
    cases q
end
section
variable {X : Cx} {pins : List (Addr × Obj)} {σ : St} {H : Hp} {s s' : Shared} {E : XK} {e : Value}
theorem leave_on {M : Model} {E' : Value → Shared → Prop} (hst : X.stack = X.env :: X.outer) (hfr : X.env.frame = some X.env.locals) (hex : X.ex = []) (I : Inv X pins σ H s) (h : CX1 X.prog X.w X.stack H s E e s') :
    wpAny M X.A (leaving X.env e) (fun _ s'' => CX1 X.prog X.w X.outer X.H₀ X.s₀ E e s'') E' s' := by
  obtain ⟨e0, C, H', rfl, os, bare, un, hok, ⟨oe, vs, T, F⟩, q⟩ := h
  have I' : Inv X pins σ H' s' := I.call' os un hok bare (fun b z => absurd z (by simp))
  have fr := I'.stack
  rw [hst] at fr
  have h0n : ∀ b, s.heap.get? b = none → X.s₀.heap.get? b = none := fun b n => by
    cases z : X.s₀.heap.get? b with
    | none => rfl
    | some o =>
      obtain ⟨o', e'⟩ := I.base.there b o z (by rw [hex]; simp)
      rw [n] at e'
      cases e'
  have ub : Un (frs X.outer) [] X.H₀ H' X.s₀.heap s'.heap := by
    have := I'.base
    rw [hex] at this
    exact this
  refine leaveX (by rw [← hst]; exact I.ok.frames) fr hfr F.at_ F.data F.sz (.inr ⟨T, F.one, F.ne, F.ent, rfl⟩) fun h' T' st n1 n2 n3 => ?_
  have new : ∀ b ∈ [e0, T], X.s₀.heap.get? b = none ∧ H' b = none := fun b hb => by
    simp only [List.mem_cons, List.not_mem_nil, or_false] at hb
    rcases hb with rfl | rfl
    · exact ⟨h0n _ F.ne0, F.He⟩
    · exact ⟨h0n _ F.nT0, F.HT⟩
  rw [← hst] at st
  refine ⟨e0, C, H', rfl, I'.os, I'.bare, ub.stp st (fun b hb => (new b hb).1) (fun b hb => ?_), hok.stp st (fun b hb => (new b hb).2) I'.stkFree, Fly.next F.cls F.dict F.data F.sz F.He (h0n _ F.ne0) hok (fun b o z => ub.there b o z (by simp)) n1 ⟨_, F.at_⟩ n2 n3, q⟩
  rcases List.mem_cons.mp (I.stkSub b hb) with z | z
  · right
    rw [z]
    exact Heap.get?_none_of_le I.ok.above
  · exact .inl z
theorem leave_made {M : Model} {E' : Value → Shared → Prop} {C e0 : Addr} {h' : Heap} {args : List Value} (hst : X.stack = X.env :: X.outer) (hfr : X.env.frame = some X.env.locals) (hex : X.ex = []) (I : Inv X pins σ H s)
    (hm : Heap.MadeExcOf s.heap h' e0 (.ref C) args) (q : E (.ref C) none H) :
    wpAny M X.A (leaving X.env (.ref e0)) (fun _ s'' => CX1 X.prog X.w X.outer X.H₀ X.s₀ E (.ref e0) s'') E' { s with heap := h' } := by
  have fr : h'.FunFrames X.base (X.env :: X.outer) := by
    rw [← hst]
    exact I.stack.of_keeps fun b o hb _ => ⟨o, hm.keeps b o hb, rfl⟩
  have ub : Un (frs X.outer) [] X.H₀ H X.s₀.heap s.heap := by
    have := I.base
    rw [hex] at this
    exact this
  have h0n : ∀ b, s.heap.get? b = none → X.s₀.heap.get? b = none := fun b n => by
    cases z : X.s₀.heap.get? b with
    | none => rfl
    | some o =>
      obtain ⟨o', e'⟩ := ub.there b o z (by simp)
      rw [n] at e'
      cases e'
  obtain ⟨t, ht, _, _⟩ := hm.there
  have hok' : HOk X.prog X.w H h' := I.hok.kept hm.keeps
  refine leaveX (s := { s with heap := h' }) (S := []) (by rw [← hst]; exact I.ok.frames) fr hfr ht rfl (by simp) (.inl ⟨rfl, rfl⟩) fun h2 T' st n1 n2 n3 => ?_
  rw [← hst] at st
  have st2 : Stp [e0] (frs X.stack) s.heap h2 := ⟨fun b o e hS hf => st.keep b o (hm.keeps b o e) hS hf, fun b o e hf => st.slot b o (hm.keeps b o e) hf⟩
  refine ⟨e0, C, H, rfl, I.os, I.bare, ub.stp st2 (fun b hb => by rw [List.mem_singleton.mp hb]; exact h0n _ hm.new) (fun b hb => ?_), I.hok.stp st2 (fun b hb => by rw [List.mem_singleton.mp hb]; exact I.hok.none_of hm.new) I.stkFree,
    Fly.next (h := h') rfl rfl rfl (by simp) (I.hok.none_of hm.new) (h0n _ hm.new) hok' (fun b o z => let ⟨o', z'⟩ := ub.there b o z (by simp); ⟨o', hm.keeps b o' z'⟩) n1 ⟨_, ht⟩ n2 n3, q⟩
  rcases List.mem_cons.mp (I.stkSub b hb) with z | z
  · right
    rw [z]
    exact Heap.get?_none_of_le I.ok.above
  · exact .inl z
end
end L2
namespace L2
open PySem PySem.Spec PyProof.Rows
section
variable {P : Program} {w : World} {K : PySem.W.Frag} {mg : Str → Option Value} {base : Heap}
theorem pass1 {N : List Str} {qual : Str} {scope : Scope} {f : Addr} {cd : Value} {A : Around} {outer : List Env} {s : Shared} {H : Hp} {E : XK} : Passes (CX1 P w) (cxOf (CX1 P w) P w K mg base N qual scope f cd A outer s H E) E :=
  fun pins σ H1 s1 e s' I h => leave_on (X := cxOf (CX1 P w) P w K mg base N qual scope f cd A outer s H E) rfl rfl rfl I h
theorem own1 {N : List Str} {qual : Str} {scope : Scope} {f : Addr} {cd : Value} {A : Around} {outer : List Env} {s : Shared} {H : Hp} {E : XK} : PassesOwn (model P w) (cxOf (CX1 P w) P w K mg base N qual scope f cd A outer s H E).A (cxOf (CX1 P w) P w K mg base N qual scope f cd A outer s H E).env (cxOf (CX1 P w) P w K mg base N qual scope f cd A outer s H E).xe :=
  PassesOwn.leaving
end
def Raises (X : Cx) (E : XK) (C : Addr) : Prop := ∀ (pins : List (Addr × Obj)) (σ : St) (H : Hp) (s : Shared) (h' : Heap) (e0 : Addr) (args : List Value), Inv X pins σ H s → Heap.MadeExcOf s.heap h' e0 (.ref C) args → E (.ref C) none H → X.xe (.ref e0) { s with heap := h' }
theorem raises1 {P : Program} {w : World} {K : PySem.W.Frag} {mg : Str → Option Value} {base : Heap} {N : List Str} {qual : Str} {scope : Scope} {f C : Addr} {cd : Value} {A : Around} {outer : List Env} {s : Shared} {H : Hp} {E : XK} : Raises (cxOf (CX1 P w) P w K mg base N qual scope f cd A outer s H E) E C :=
  fun pins σ H1 s1 h' e0 args I hm q => leave_made (X := cxOf (CX1 P w) P w K mg base N qual scope f cd A outer s H E) rfl rfl rfl I hm q
def excObjB (K : PySem.W.Frag) (C : Addr) (bmB : List Value) (newId : String) (o : Obj) : Bool := match o.data with
  | .cls cd => o.cls == .type "type" && (cd.mro.head? == some (.ref C) && (PySem.W.tailIn K bmB cd.mro.tail && (o.slots.size == 6 && (o.slots[4]? == some (some (.builtin newId)) && (!cd.hasDel && (PySem.W.nsOkIn K cd.ns && PySem.W.nsIn K cd.ns "__init__" == some none))))))
  | _ => false
def excInB (K : PySem.W.Frag) (C : Addr) (bmB : List Value) (newId : String) : Bool := (K.lookup C).any (excObjB K C bmB newId)
theorem list6 {α : Type} {l : List α} (h : l.length = 6) : ∃ a b c d e f, l = [a, b, c, d, e, f] := by
  cases l with
  | nil => cases h
  | cons a l =>
  cases l with
  | nil => cases h
  | cons b l =>
  cases l with
  | nil => cases h
  | cons c l =>
  cases l with
  | nil => cases h
  | cons d l =>
  cases l with
  | nil => cases h
  | cons e l =>
  cases l with
  | nil => cases h
  | cons f l =>
  cases l with
  | nil => exact ⟨a, b, c, d, e, f, rfl⟩
  | cons _ _ => cases h
theorem own_in {K : PySem.W.Frag} {h : Heap} {mg : Str → Option Value} {x : Str} {C : Addr} {bmB : List Value} {newId : String} (X : K.In h) (m : mg x = some (.ref C)) (q : excInB K C bmB newId = true) : OwnCls x C bmB newId mg h := by
  obtain ⟨o, ho, q⟩ := PySem.W.any_some q
  obtain ⟨c, dd, data, sl⟩ := o
  cases data with
  | cls cd =>
    obtain ⟨nm, bs, mro, ns, qn, hd, sn, sub, ab, col, del⟩ := cd
    simp only [excObjB, Bool.and_eq_true, beq_iff_eq, Bool.not_eq_true'] at q
    obtain ⟨h1, h2, h3, h4, h5, h6, h7, h8⟩ := q
    cases mro with
    | nil => cases h2
    | cons v bm =>
      cases h2
      obtain ⟨l⟩ := sl
      obtain ⟨k0, k1, k2, k3, k4, k5, rfl⟩ := list6 (l := l) h4
      cases h5
      subst h1 h6
      exact ⟨m, bm, ns, nm, qn, bs, hd, sn, sub, ab, col, dd, k0, k1, k2, k3, k5, _, X _ _ ho, .of_isNs (PySem.W.isNs_of_in X h7), PySem.W.nsMap_none_of_in X h7 h8, PySem.W.tail_of_in X h3⟩
  | _ => cases q
section
variable {X : Cx}
theorem ps_raise {x : Str} {C : Addr} {B newId initId : String} {bm : List Value} {a : Expr} {ta : TA} {E : XK} {np cpos pos : Pos} (FB : ExcBaseFacts B newId initId bm) (hc : X.calm = true) (hg : Gl X x) (hm : X.mg x = some (.ref C)) (hq : excInB X.K C bm newId = true)
    (hE : Raises X E C) (ha : PA X [a] ta) (hdb : (x == ("__debug__" : Str)) = false := by decide) (he : starEach [a] X.env = (false, eval a X.env) :: starEach [] X.env := by rfl) :
    PS X (.Raise (some (.Call (.Name x np) [a] [] cpos)) none pos) (fun D σ H => ta σ H fun vs H1 => vs.length ≤ sizeLine ∧ E (.ref C) none H1) := by
  intro pins s σ H D I h
  have O := own_in (x := x) I.ok.mod.kin hm hq
  obtain ⟨tl, N, nm, q, bs, hdct, sn, sub, ab, col, dd, k0, k1, k2, k3, k5, mN, hC, hN, hni, T⟩ := O.obj
  refine wpAny_Raise_call_subT (C := C) (nm := nm) (q := q) (N := N) (bs := bs) (bm := tl) (hdct := hdct) (sn := sn) (sub := sub) (ab := ab) (col := col) (dd := dd) (k0 := k0) (k1 := k1) (k2 := k2) (k3 := k3) (k5 := k5)
    FB (mN := mN) (T.hasType FB.hasBase) (I.ok.hd hc) (by rw [he]; rfl) hni (ld_glob I hg hm ⟨rfl, ?_⟩ hdb)
  have key := ha cpos pins s σ H _ I h
  rw [he] at key ⊢
  refine Calls.evalArgs_plain (wpAny_mono key (fun us s1 h1 => ?_) fun _ _ y => y)
  obtain ⟨vs, H1, I1, r, hl, q1⟩ := h1
  exact ⟨rfl, by rw [← r.length]; exact hl, I1.bk _ _ hC, hN.keeps I1.bk, T.keeps I1.bk, fun h' e0 hmk => hE pins σ H1 s1 h' e0 us I1 hmk q1⟩
end
end L2
namespace L2
open PySem PySem.Spec PyProof.Rows
def subIn (K : PySem.W.Frag) (C D : Addr) : Bool := match K.lookup C with
  | some ⟨_, _, .cls cd, _⟩ => cd.mro.contains (.ref D)
  | _ => false
section
variable {M : Model} {A : Around} {E : Value → Shared → Prop}
theorem excMatches_own {nm q : Str} {C N : Addr} {bs bm : List Value} {hdct : Bool} {sn : List Str} {sub : List Value} {ab : Bool} {col : Option Bool} {dd : Option Addr} {k0 k1 k2 k3 k5 : Option Value} {newId : String}
    {nm' q' : Str} {C' N' : Addr} {bs' bm' : List Value} {hdct' : Bool} {sn' : List Str} {sub' : List Value} {ab' : Bool} {col' : Option Bool} {dd' : Option Addr} {k0' k1' k2' k3' k5' : Option Value} {newId' : String}
    {h : Heap} {g : Array GenState} {d : Drawn} {t : Nat} {os : OsState} {e : Addr} {oe : Obj} {b : Bool} {Q : Bool → Shared → Prop}
    (hC : h.get? C = some (excClassObj nm q C N bs bm hdct sn sub ab col dd k0 k1 k2 k3 k5 newId)) (hD : h.get? C' = some (excClassObj nm' q' C' N' bs' bm' hdct' sn' sub' ab' col' dd' k0' k1' k2' k3' k5' newId'))
    (he : h.get? e = some oe) (hcls : oe.cls = .ref C) (hbase : bm'.contains (.type "BaseException") = true) (hb : (Value.ref C :: bm).contains (.ref C') = b)
    (hq : Q b ⟨h, g, d, t, os⟩) : wpAny M A (excMatches (.ref e) (.ref C')) Q E ⟨h, g, d, t, os⟩ := by
  have hcB : (Value.ref C' :: bm').contains (.type "BaseException") = true := by rw [List.contains_cons, hbase, Bool.or_true]
  have f := tc_notTuple
  unfold excMatches
  cases b <;> (repeat (first | (with_reducible refine wpAny_loadPart_at he ?_; rw [hcls]) | with_reducible refine wpAny_loadPart_at hD ?_ | (with_reducible refine wpAny_isSubtype_exc hD ?_; rw [hcB]) | (with_reducible refine wpAny_isSubtype_exc hC ?_; rw [hb]) | wp_step)) <;> exact hq
end
abbrev Cx.held (X : Cx) (e : Value) : Cx := { X with A := X.A.mark (some e), calm := false, xe := fun _ _ => False }
section
variable {X : Cx} {pins : List (Addr × Obj)} {σ : St} {H : Hp} {s s' : Shared} {E : XK} {e : Value}
theorem Inv.held (I : Inv X pins σ H s) (e : Value) : Inv (X.held e) pins σ H s :=
  ⟨⟨I.ok.mod, I.ok.kind, I.ok.glob, I.ok.blt, I.ok.above, I.ok.inj, I.ok.has, I.ok.cab, (fun z => nomatch z), I.ok.frames, I.ok.stk, I.ok.exf, I.ok.bs, I.ok.bsz, I.ok.noex, I.ok.exfs, I.ok.funs, I.ok.frf⟩,
    I.os, I.bare, I.base, I.loc, I.cell, I.free, I.freeC, I.pin, I.hok, I.len⟩
theorem Inv.unheld (ok : X.Ok) (I : Inv (X.held e) pins σ H s) : Inv X pins σ H s := ⟨ok, I.os, I.bare, I.base, I.loc, I.cell, I.free, I.freeC, I.pin, I.hok, I.len⟩
theorem seen {M : Model} {E1 : Value → Shared → Prop} {G : Shared → Prop} (hst : X.stack = X.env :: X.outer) (hfr : X.env.frame = some X.env.locals) (I : Inv X pins σ H s) (h : CX1 X.prog X.w X.stack H s E e s')
    (k : ∀ (ea C : Addr) (H' : Hp) (h5 : Heap) (oe : Obj) (vs : Array Value) (T : Addr), e = .ref ea → E (.ref C) none H' → Fly H' s.heap h5 ea C oe vs T → (∀ h6 : Heap, (∀ b, b ≠ T → h6.get? b = h5.get? b) → Entry h6 T .none → Inv X pins σ H' { s' with heap := h6 }) → G { s' with heap := h5 }) :
    wpAny M X.A (noteFrame e X.env) (fun _ s₂ => wpAny M X.A (setFlight e none) (fun _ s₃ => G s₃) E1 s₂) E1 s' := by
  obtain ⟨e0, C, H', rfl, os, bare, un, hok, ⟨oe, vs, T, F⟩, q⟩ := h
  have I' : Inv X pins σ H' s' := I.call' os un hok bare (fun b z => absurd z (by simp))
  have fr := I'.stack
  rw [hst] at fr
  refine noteX (by rw [← hst]; exact I.ok.frames) fr hfr F.at_ F.data F.sz (.inr ⟨T, F.one, F.ne, F.ent, rfl⟩) fun h4 T' st n1 n2 n3 => ?_
  have hTe : e0 ≠ T' := fun z => by rw [← z, F.at_] at n1; cases n1
  refine landX (s := { s' with heap := h4 }) n2 (Obj.data_mapFields F.data _) (T := T') (by simp [F.sz]) n3 fun h5 k1 k2 => ?_
  rw [← hst] at st
  obtain ⟨oe', vs', T2, F'⟩ := Fly.next (h := s'.heap) (h' := h5) F.cls F.dict F.data F.sz F.He F.ne0 hok (fun b o z => un.there b o z (by simp)) n1 ⟨_, F.at_⟩ ((k1 e0 hTe).trans n2) k2
  have eT : T2 = T' := by
    have z := F'.at_
    rw [(k1 e0 hTe).trans n2] at z
    cases z
    have z1 := F'.data
    rw [Obj.data_mapFields F.data] at z1
    cases z1
    have z2 := F'.one
    simp [F.sz] at z2
    exact z2.symm
  subst eT
  refine k e0 C H' h5 oe' vs' T2 rfl q F' fun h6 a1 a2 => ?_
  have new : ∀ b ∈ [e0, T], s.heap.get? b = none ∧ H' b = none := fun b hb => by
    simp only [List.mem_cons, List.not_mem_nil, or_false] at hb
    rcases hb with rfl | rfl
    · exact ⟨F.ne0, F.He⟩
    · exact ⟨F.nT0, F.HT⟩
  have st6 : Stp [e0, T] (frs X.stack) s'.heap h6 := ⟨fun b o q hS hf => by
      have hb : b ≠ T2 := fun z => by rw [z, n1] at q; cases q
      rw [a1 b hb, k1 b hb]
      exact st.keep b o q hS hf, fun b o q hf => by
      have hb : b ≠ T2 := fun z => by rw [z, n1] at q; cases q
      obtain ⟨sl, z⟩ := st.slot b o q hf
      exact ⟨sl, by rw [a1 b hb, k1 b hb]; exact z⟩⟩
  exact I.call' (s' := { s' with heap := h6 }) os (un.stp st6 (fun b hb => (new b hb).1) fun b hb => .inl hb) (hok.stp st6 (fun b hb => (new b hb).2) I'.stkFree) bare (fun b z => absurd z (by simp))
theorem sub_base {K : PySem.W.Frag} {h : Heap} {C D : Addr} {nm q : Str} {N : Addr} {bs bm : List Value} {hdct : Bool} {sn : List Str} {sub : List Value} {ab : Bool} {col : Option Bool} {dd : Option Addr} {k0 k1 k2 k3 k5 : Option Value} {newId : String} {bmB : List Value} {newId' : String} {b : Bool}
    (X : K.In h) (q0 : excInB K C bmB newId' = true) (hC : h.get? C = some (excClassObj nm q C N bs bm hdct sn sub ab col dd k0 k1 k2 k3 k5 newId)) (hs : subIn K C D = b) : (Value.ref C :: bm).contains (.ref D) = b := by
  cases z : K.lookup C with
  | none =>
    obtain ⟨o, ho, _⟩ := PySem.W.any_some q0
    rw [z] at ho
    cases ho
  | some o =>
    have := X _ _ z
    rw [hC] at this
    cases this
    unfold subIn at hs
    rw [z] at hs
    exact hs
end
end L2
namespace L2
open PySem PySem.Spec PyProof.Rows
section
variable {X : Cx} {CX : CXT} {k : Nat} {f C Dd : Addr} {fd : FuncData} {ps : List Str} {sp : Sp} {x y n : Str} {p pos hp yp tp cp : Pos} {e0 : Expr} {es : List Expr} {ta : TA} {bmC bmD : List Value} {nC nD : String} {b0 : Stmt} {suite : List Stmt} {ts : TS}
structure Hits (X : Cx) (y : Str) (C Dd : Addr) (bmC bmD : List Value) (nC nD : String) : Prop where
  gl : Gl X y
  mg : X.mg y = some (.ref Dd)
  qC : excInB X.K C bmC nC = true
  qD : excInB X.K Dd bmD nD = true
  bs : bmD.contains (.type "BaseException") = true
  sub : subIn X.K C Dd = true
  db : (y == ("__debug__" : Str)) = false
theorem matched {pins : List (Addr × Obj)} {σ : St} {H : Hp} {s : Shared} {ea : Addr} {oe : Obj} {A : Around} {E : Value → Shared → Prop} {Q : Bool → Shared → Prop} (h : Hits X y C Dd bmC bmD nC nD) (I : Inv X pins σ H s) (he : s.heap.get? ea = some oe) (hc : oe.cls = .ref C) (q : Q true s) :
    wpAny (model X.prog X.w) A (excMatches (.ref ea) (.ref Dd)) Q E s := by
  have KX := I.ok.mod.kin
  obtain ⟨tl, N, nm, qn, bs, hdct, sn, sub, ab, col, dd, k0, k1, k2, k3, k5, mN, hC, _, _, _⟩ := (own_in (mg := fun _ => some (.ref C)) (x := y) KX rfl h.qC).obj
  obtain ⟨tl', N', nm', q', bs', hdct', sn', sub', ab', col', dd', k0', k1', k2', k3', k5', mN', hD, _, _, T'⟩ := (own_in (mg := fun _ => some (.ref Dd)) (x := y) KX rfl h.qD).obj
  obtain ⟨hh, g, d, t, os⟩ := s
  exact excMatches_own (I.bk _ _ hC) (I.bk _ _ hD) he hc (T'.hasType h.bs) (sub_base KX h.qC hC h.sub) q
end
end L2
namespace L2
open PySem PySem.Spec PyProof.Rows
abbrev Cx.heldP (X : Cx) (ea : Addr) (oe : Obj) : Cx := { X with A := X.A.mark (some (.ref ea)), calm := false, xe := fun _ _ => False, pn := (ea, oe) :: X.pn }
section
variable {X : Cx} {pins : List (Addr × Obj)} {σ : St} {H : Hp} {s s' : Shared} {E : XK} {e : Value} {ea : Addr} {oe : Obj}
theorem Inv.reset {h' : Heap} {m' : Str → Option Value} {t' : Nat} (I : Inv X pins σ H s) (hn : h'.Ns X.env.locals m') (hs : Heap.SameBut X.env.locals s.heap h') : Inv X pins (σ.map fun _ => none) H { s with heap := h', toks := t' } := by
  have keep : ∀ b o, b ≠ X.env.locals → s.heap.get? b = some o → h'.get? b = some o := fun b o hb q => (hs.2 b hb).trans q
  have lo : ∀ {b o}, X.s₀.heap.get? b = some o → b ≠ X.env.locals := fun e => Nat.ne_of_lt (Nat.lt_of_lt_of_le (Heap.lt_size e) I.ok.above)
  refine ⟨I.ok, I.os, I.bare, ⟨fun b o e n hb hx => keep b o (lo e) (I.base.keep b o e n hb hx), fun b o e n hb hx => ?_, I.base.free, fun b o e hx => ?_, I.base.tups, I.base.frzs, I.base.tbls⟩, ⟨m', hn, fun j y v e1 e2 e3 => ?_⟩, fun y c q => ?_, I.free, I.freeC, fun p hp => ?_, ?_, by rw [List.length_map]; exact I.len⟩
  · obtain ⟨sl, e1⟩ := I.base.slot b o e n hb hx
    exact ⟨sl, keep b _ (lo e) e1⟩
  · obtain ⟨o', e1⟩ := I.base.there b o e hx
    exact ⟨o', keep b _ (lo e) e1⟩
  · rw [List.getElem?_map] at e2
    cases z : σ[j]? <;> rw [z] at e2 <;> cases e2
  · obtain ⟨v, z⟩ := I.cell y c q
    exact ⟨v, z.sameBut hs (I.cne y c q)⟩
  · obtain ⟨q1, q2, q3, q4, q5⟩ := I.pin p hp
    exact ⟨keep p.1 p.2 q3 q1, q2, q3, q4, q5⟩
  · intro b u q
    refine (I.hok b u q).stay (fun c w hc z => keep c w (fun k => ?_) z) (fun _ z => z) fun _ _ z => z
    rcases hc with rfl | hc
    · rw [k, I.free] at q; cases q
    · rw [k, I.free] at hc; cases hc
end
section
variable {X : Cx} {k i : Nat} {f C Dd : Addr} {fd : FuncData} {ps : List Str} {sp : Sp} {x y n : Str} {p pos hp yp tp cp : Pos} {e0 : Expr} {es : List Expr} {ta : TA} {bmC bmD : List Value} {nC nD : String} {b0 : Stmt} {suite : List Stmt} {ts : Addr → TS}
def Ends.only (D : Ends) : Ends := { nx := fun _ _ => False, rt := D.rt }
end
end L2
namespace L2
open PySem PySem.Spec PyProof.Rows
section
variable {X : Cx} {k i j : Nat} {f C Dd : Addr} {fd : FuncData} {ps : List Str} {sp : Sp} {x y n z : Str} {p pos hp yp tp cp zp : Pos} {e0 : Expr} {es : List Expr} {ta : TA} {bmC bmD : List Value} {nC nD : String} {b0 : Stmt} {suite : List Stmt} {ts : TS} {tx : Addr → TS}
theorem run_try {pins : List (Addr × Obj)} {σ : St} {H : Hp} {s : Shared} {Ew : XK} {El : Value → Shared → Prop} {Q : VK} (F : FnOk X.prog X.w X.K X.mg X.base (CX1 X.prog X.w) k f fd ps sp) (hr : Room k X.A) (hg : Gl X x) (hm : X.mg x = some (.ref f)) (hk : PySem.W.keepIn X.K (.ref f) = true) (hb : Binds X.K fd ps [])
    (ha : PA X.nox (e0 :: es) ta) (hx : ∀ (H1 : Hp) (s1 : Shared) (e : Value) (s' : Shared), Inv X pins σ H1 s1 → CX1 X.prog X.w X.stack H1 s1 Ew e s' → El e s') (I : Inv X pins σ H s) (h : ta σ H fun vs H1 => sp vs H1 Q Ew)
    (hdb : (x == ("__debug__" : Str)) = false) (he : starEach (e0 :: es) X.env = (false, eval e0 X.env) :: starEach es X.env) (hpl : (backTo cp (starEach es X.env)).any (·.1) = false) :
    wpAny (model X.prog X.w) X.A (eval (.Call (.Name x p) (e0 :: es) [] cp) X.env) (EP X pins σ Q) El s := by
  refine wpAny_Call_Name_kw (ld_glob I hg hm ?_ hdb)
  refine PySem.W.callWith_K (h₀ := X.base) I.ok.mod.kin hk (wpAny_mono (ha cp pins s σ H _ (I.wish _) h) (fun us s1 zq => zq.elim fun vs H1 I1 r q => ⟨I1.kIn, ?_⟩) fun _ _ z => False.elim z) he hpl
  have J1 : Inv X pins σ H1 s1 := I1.unwish
  have hl : us.length = ps.length := by rw [← r.length]; exact F.len _ _ _ _ q
  have bd := hb s1 us J1.kIn (by rw [List.append_nil]; exact hl)
  rw [List.append_nil] at bd
  refine wpAny_call (codeAny_mono (F.run X.A X.stack s1 H1 ⟨us, []⟩ us vs _ _ hr J1.env0 bd r q) fun r s' hq => ?_)
  cases r with
  | error e => exact hx H1 s1 e s' J1 hq
  | ok fl =>
    cases fl with
    | ret u => exact J1.after hq
    | next => exact False.elim hq
    | brk => exact False.elim hq
    | cont => exact False.elim hq
end
section
variable {K : PySem.W.Frag} {x D : Addr} {ox : Obj}
abbrev bmV : List Value := [.type "ValueError", .type "Exception", .type "BaseException", .type "object"]
structure XKit (K : PySem.W.Frag) (D : Addr) : Prop where
  q : excInB K D bmV "ValueError.__new__" = true
  ga : PySem.W.findIn K (.ref D) "__getattribute__" = some (some (.builtin "BaseException.__getattribute__"))
  gn : PySem.W.findIn K (.ref D) "__getattr__" = some none
  hdct : PySem.W.hasDictIn K D = true
  ha : PySem.W.findIn K (.ref D) "__class__" = some (some (.builtin "object.__class__"))
  hn : PySem.W.specialIn K (.builtin "object.__class__") "__get__" = some (some (.builtin "getset_descriptor.__get__"))
  htk : PySem.W.takesIn K (.builtin "object.__class__") = some true
  hm : PySem.W.mroIn K D (.type "object") = some true
theorem kd1 : builtinKind "BaseException.__getattribute__" = some Manifest.AttrKind.slot := by kernel_rfl
theorem kd2 : splitId "BaseException.__getattribute__" = some ("BaseException", "__getattribute__") := by kernel_rfl
theorem kd3 : bmV.contains (.type "BaseException") = true := by decide
theorem fobj {K : PySem.W.Frag} {D : Addr} (k : XKit K D) : PySem.W.findObj K D none "__class__" = some (.bind (.builtin "getset_descriptor.__get__") (.builtin "object.__class__")) := by
    obtain ⟨cd, hc, _⟩ := PySem.W.any_some k.hdct
    simp only [PySem.W.findObj, hc, k.ha, k.hn, k.htk, Option.bind_some]

theorem exc_call {prog : Program} {w : World} {A : Around} {s : Shared} {K : PySem.W.Frag} {x D : Addr} {ox : Obj} {tk : Tok} {R : Result → Shared → Prop} (X : K.In s.heap) (I : PySem.W.InstAt s.heap x ox D none) (k : XKit K D) (h : R (Except.ok (Flow.ret (Value.ref D))) s) :
    codeAny (model prog w) A (Code.call (Value.builtin "BaseException.__getattribute__") { pos := [Value.ref x, Value.str (Str.ofString "__class__") tk] }) R s := by
  obtain ⟨hh, g, d, t, os⟩ := s
  obtain ⟨tl, N, nm, qn, bs, hdct, sn, sub, ab, col, dd, k0, k1, k2, k3, k5, mN, hC, _, _, T⟩ := (own_in (mg := fun _ => some (.ref D)) (x := "NoPart") X rfl k.q).obj
  have hf := fobj k
  have hB := T.hasType kd3
  refine codeAny_call_builtin PySem.F.attrBase_ValueError.ga.plain PySem.F.entry_bexc_ga ?_
  have ck := @wpAny_check_slot_inst A.in1 (fun e s' => R (Except.error e) s') hh g d t os nm qn D N x bs tl hdct sn sub ab col dd k0 k1 k2 k3 k5 "ValueError.__new__" (model prog w) "BaseException.__getattribute__" "BaseException" "__getattribute__" ox [Value.str (Str.ofString "__class__") tk]
  refine ck kd1 kd2 (PySem.F.args_bexc_ga _ _) hB I.at_ I.cls hC ?_
  clear ck
  unfold Builtin.«object.__getattribute__» slotArgs
  generalize hfnd : Builtin.ObjectAttr.find = fnd
  generalize hbnd : Builtin.ObjectAttr.bindTo = bnd
  repeat (first | (with_reducible refine wpAny_loadPart_at I.at_ ?_; rw [I.cls]) | wp_step)
  subst hfnd
  refine (PySem.W.looks_find X I hf) _ _ _ _ (fun _ _ e => e) ?_
  dsimp only
  subst hbnd
  unfold Builtin.ObjectAttr.bindTo
  dsimp only
  refine wpAny_bind (wpAny_holding (wpAny_call (PySem.W.class_get X I k.hm ?_)))
  exact wpAny_pure h
theorem exc_class {prog : Program} {w : World} {A : Around} {E : Value → Shared → Prop} {s : Shared} {K : PySem.W.Frag} {x D : Addr} {ox : Obj} {Q : Option Value → Shared → Prop} (X : K.In s.heap) (I : PySem.W.InstAt s.heap x ox D none) (k : XKit K D) (h : Q (some (Value.ref D)) { s with toks := s.toks + 1 }) :
    wpAny (model prog w) A (getAttr? (Value.ref x) (Str.ofString "__class__")) Q E s := by
  unfold getAttr?
  refine wpAny_bind (wpAny_mkText ?_)
  unfold getAttrBy?
  refine wpAny_bind (wpAny_attempt ?_)
  unfold getAttrBy
  refine wpAny_holding (wpAny_bind ((I.type (h := s.heap)) _ _ _ _ (fun _ _ e => e) ?_))
  refine wpAny_bind ((PySem.W.looks_findIn X k.ga) _ _ _ _ (fun _ _ e => e) ?_)
  dsimp only
  have e0 : (Value.builtin "BaseException.__getattribute__" == Value.builtin "object.__getattribute__") = false := by decide
  rw [e0, Bool.and_false, if_neg Bool.false_ne_true]
  unfold getAttrByItsOwn
  refine wpAny_bind ((PySem.W.looks_hook X (mc := .ref D) (r := none) k.gn) _ _ _ _ (fun _ _ e => e) ?_)
  refine wpAny_bind (wpAny_attempt (wpAny_holding ?_))
  unfold callGetattribute boundAndCalled
  rw [if_neg (by decide), PySem.F.attrBase_ValueError.ga.bind]
  refine wpAny_bind (wpAny_pure ?_)
  refine wpAny_call (exc_call (s := { s with toks := s.toks + 1 }) X I k ?_)
  exact wpAny_pure (wpAny_pure h)
theorem kitx_exc (k : XKit K D) : PySem.W.KitX K (.ref x) (.ref D) (fun h => PySem.W.InstAt h x ox D none) where
  ty := fun _ _ _ I => I.type
  it := fun _ _ X _ => by
    obtain ⟨cdD, hcD, _⟩ := PySem.W.any_some k.hdct
    unfold PySem.W.clsIn at hcD
    split at hcD
    · rename_i c' d' cd' sl' ho
      intro A' Q' E' s' kk q
      unfold isType loadHead
      exact wpAny_bind (wpAny_loadPart (kk _ _ (X _ _ ho)) (wpAny_pure q))
    · cases hcD
  ne := fun h tp dd its n sl X htp => by
    obtain ⟨cdD, hcD, _⟩ := PySem.W.any_some k.hdct
    refine Bool.eq_false_iff.mpr fun q => ?_
    have e : D = tp := Value.ref.inj (beq_iff_eq.mp q)
    subst e
    unfold PySem.W.clsIn at hcD
    split at hcD
    · rename_i c' d' cd' sl' ho
      have z := (X _ _ ho).symm.trans htp
      cases z
    · cases hcD
  ca := fun {prog w A E Q s} X I h => exc_class X I k h
variable {X : Cx} {ea C : Addr} {oe : Obj}
inductive rIsiXI (K : PySem.W.Frag) (ea C : Addr) (xs : List V) (H : Hp) (Q : VK) : Prop
  | mk (c : V) (u : Value) (b : Bool) (x0 : xs = [.ref ea, c]) (x1 : (∀ u', RelV c u' → u' = u)) (x2 : PySem.W.kitOne K (.ref C) u = some b) (x3 : Q (.bl b) H) : rIsiXI K ea C xs H Q
end
section
variable {P : Program} {w : World} {K : PySem.W.Frag} {mg : Str → Option Value} {base : Heap}
theorem Fun.ok1 {x qual : Str} {st : Stmt} {f : Addr} {fd : FuncData} {N ps : List Str} {k : Nat} {sp : Sp} (F : Fun K x qual st f fd) (S : FnScope N ps (defScope st)) (len : ∀ vs H Q E, sp vs H Q E → vs.length = ps.length)
    (hbody : ∀ (cdv : Value) (A : Around) (outer : List Env) (s : Shared) (H : Hp) (vs : List V) (Q : VK) (E : XK), Room k (A.deeper (envOfC qual (defScope st) s.heap.objs.size f cdv)) → sp vs H Q E →
      ∃ t, PSs (cxOf (CX1 P w) P w K mg base N qual (defScope st) f cdv A outer s H E) (defBody st) t ∧ t { nx := fun _ H' => Q .non H', rt := Q } (start N vs) H) : FnOk P w K mg base (CX1 P w) (k + 1) f fd ps sp := by
  obtain ⟨oc, od, kV, doc, pm, an, cdv, ct, osl, rfl, lk, hcd⟩ := F.ex
  exact fn_of lk hcd S len fun A outer s H vs Q E hr hsp => hbody cdv A outer s H vs Q E hr hsp
end
end L2
namespace L2
open PySem PySem.Spec PyProof.Rows
inductive Df1E (P : Program) (w : World) (K : PySem.W.Frag) (mg : Str → Option Value) (base : Heap) (x : Str) (ps : List Str) (n : Nat) (sp : Sp) : Prop
  | mk (f : Addr) (fd : FuncData) (k : PySem.W.keepIn K (.ref f) = true) (b : Binds K fd ps []) (m : mg x = some (.ref f)) (G : FnOk P w K mg base (CX1 P w) n f fd ps sp) : Df1E P w K mg base x ps n sp
structure Df1 (P : Program) (w : World) (K : PySem.W.Frag) (mg : Str → Option Value) (base : Heap) (x : Str) (ps : List Str) (n : Nat) (sp : Sp) : Prop where
  ex : Df1E P w K mg base x ps n sp
theorem Df1.mk' {P : Program} {w : World} {K : PySem.W.Frag} {mg : Str → Option Value} {base : Heap} {x q : Str} {st : Stmt} {ps : List Str} {n : Nat} {sp : Sp} {f : Addr} {fd : FuncData} (F : Fun K x q st f fd) (b : Binds K fd ps []) (m : mg x = some (.ref f)) (G : FnOk P w K mg base (CX1 P w) n f fd ps sp) : Df1 P w K mg base x ps n sp := ⟨⟨f, fd, F.kp, b, m, G⟩⟩
inductive spFound1I (C : Addr) (vs : List V) (H : Hp) (Q : VK) (E : XK) : Prop
  | mk (d : Dc) (t : Addr) (xs : List V) (x0 : vs = [d.val, .ref t]) (x1 : d.At H) (x2 : H t = some (.tup xs)) (x3 : (∀ z ∈ xs, Dc.StepV z)) (x4 : (∀ e, d.sub xs = some e → Q e.val H)) (x5 : (d.sub xs = none → ∀ H', Same H H' → E (.ref C) none H')) : spFound1I C vs H Q E
def spFound1 (C : Addr) : Sp := fun vs H Q E => spFound1I C vs H Q E
inductive spPartAtI (C : Addr) (vs : List V) (H : Hp) (Q : VK) (E : XK) : Prop
  | mk (d : Dc) (t : Addr) (xs : List V) (x0 : vs = [d.val, .ref t]) (x1 : d.At H) (x2 : d.slim) (x3 : d.size ≤ 900) (x4 : H t = some (.tup xs)) (x5 : (∀ z ∈ xs, Dc.StepV z)) (x6 : (∀ e, d.sub xs = some e → ∀ (d' : Dc) (H' : Hp), Fresh H H' d' → Dc.like e d' → Q d'.val H')) (x7 : (d.sub xs = none → ∀ H', Same H H' → E (.ref C) none H')) : spPartAtI C vs H Q E
inductive spHasPartI (vs : List V) (H : Hp) (Q : VK) (u3_ : XK) : Prop
  | mk (d : Dc) (t : Addr) (xs : List V) (x0 : vs = [d.val, .ref t]) (x1 : d.At H) (x2 : H t = some (.tup xs)) (x3 : (∀ z ∈ xs, Dc.StepV z)) (x4 : ∀ H', Same H H' → Q (.bl (d.sub xs).isSome) H') : spHasPartI  vs H Q u3_
end L2
namespace L2
open PySem
end L2
namespace L2
open PySem PySem.Spec PyProof.Rows
theorem b_ValueError : bootBuiltins "ValueError" = some (.type "ValueError") := by decide +kernel
end L2

set_option Elab.async false
set_option linter.all false
set_option maxRecDepth 100000
set_option maxHeartbeats 4000000
namespace L2
open PySem PySem.Spec PyProof.Rows
structure RoomN (k : Nat) (A : Around) : Prop where
  dp : A.depth + 3 * k + 5 < recursionLimit
  un : A.units + 16 * k + 200 < cLine
abbrev calmed (A : Around) : Around := { A with handled := none }
theorem Room.held {k : Nat} {A : Around} (r : Room k A) (v : Option Value) : RoomN k (A.mark v) := ⟨r.dp, r.un⟩
theorem RoomN.deeper {k : Nat} {A : Around} (r : RoomN (k + 1) A) (env : Env) : RoomN k (A.deeper env) :=
  ⟨by have := r.dp; show A.depth + 1 + 3 * k + 5 < _; omega, by have := r.un; show A.units + 3 + 16 * k + 200 < _; omega⟩
structure FnOkN (P : Program) (w : World) (K : PySem.W.Frag) (mg : Str → Option Value) (base : Heap) (CX : CXT) (k : Nat) (f : Addr) (fd : FuncData) (ps : List Str) (sp : Sp) : Prop where
  len : ∀ vs H Q E, sp vs H Q E → vs.length = ps.length
  run : ∀ (A : Around) (outer : List Env) (s : Shared) (H : Hp) (args : Args) (us : List Value) (vs : List V) (Q : VK) (E : XK), RoomN k A → Env0 P w K mg base A outer s H → BindsTo s fd args (ps.zip us) → Vals vs us → sp vs H Q E →
    codeAny (model P w) A (.call (.ref f) args) (CR CX outer P w H s Q E) s
abbrev cxN (CX : CXT) (P : Program) (w : World) (K : PySem.W.Frag) (mg : Str → Option Value) (base : Heap) (N : List Str) (qual : Str) (scope : Scope) (f : Addr) (cd : Value) (A : Around) (outer : List Env) (s : Shared) (H : Hp) (E : XK) : Cx :=
  { cxOf CX P w K mg base N qual scope f cd A outer s H E with calm := false }
theorem Env0.held {P : Program} {w : World} {K : PySem.W.Frag} {mg : Str → Option Value} {base : Heap} {A : Around} {outer : List Env} {s : Shared} {H : Hp} (e : Env0 P w K mg base A outer s H) (u : Unit) : Env0 P w K mg base (calmed A) outer s H :=
  ⟨e.frames, e.mod, e.bs, e.bsz, e.funs, e.frf, e.hok, e.bare⟩
theorem fn_ofN {CX : CXT} {P : Program} {w : World} {K : PySem.W.Frag} {mg : Str → Option Value} {base : Heap} {k : Nat} {f : Addr} {name qual : Str} {params : Arguments} {body : List Stmt} {scope : Scope} {dV kV doc pm cdv ct oc : Value} {an od : Option Addr}
    {osl : Array (Option Value)} {N ps : List Str} {sp : Sp} (lk : K.lookup f = some ⟨oc, od, .func (PySem.W.fnOf name qual params body scope dV kV doc pm an cdv ct), osl⟩) (hcd : PySem.W.codeIn K cdv qual = true) (S : FnScope N ps scope)
    (len : ∀ vs H Q E, sp vs H Q E → vs.length = ps.length)
    (hbody : ∀ (A : Around) (outer : List Env) (s : Shared) (H : Hp) (vs : List V) (Q : VK) (E : XK), RoomN k (A.deeper (envOfC qual scope s.heap.objs.size f cdv)) → sp vs H Q E →
      ∃ t, PSs (cxN CX P w K mg base N qual scope f cdv A outer s H E) body t ∧ t { nx := fun _ H' => Q .non H', rt := Q } (start N vs) H) :
    FnOkN P w K mg base CX (k + 1) f (PySem.W.fnOf name qual params body scope dV kV doc pm an cdv ct) ps sp := by
  refine ⟨len, fun A outer s H args us vs Q E hr e0 hb r hsp => ?_⟩
  have hl := len _ _ _ _ hsp
  have KX : K.In s.heap := e0.mod.kin.keeps fun b o e => (e0.bs b o e).1
  have lim : s.heap.NoLimit := e0.mod.nolimit.keeps fun b o e => (e0.bs b o e).1
  have hkind : ∀ y ∈ ps.zip us, scope.names.lookup y.1 = some .local ∨ (scope.names.lookup y.1 = some .cell ∧ ((cellsFrom (s.heap.objs.size + 1) scope.names []).lookup y.1).isSome = true) := fun ⟨n, v⟩ hy => by
    rcases S.par n (List.of_mem_zip hy).1 with q | q
    · exact .inl q
    · exact .inr ⟨q, PySem.W.cellsFrom_some _ _ _ (.inl q)⟩
  refine codeAny_call_function (show A.depth < recursionLimit by have := hr.dp; omega) (KX _ _ lk) rfl S.co S.gen rfl (PySem.W.codeRec_of KX hcd) (hb _ _ _ _ ?_)
  refine wpAny_newFunctionEnv_cells S.kind hkind fun env he s1 x => ?_
  subst he
  refine ⟨lim.keeps x.toInCall.keep, codeAny_func ?_⟩
  obtain ⟨t, ht, hq⟩ := hbody A outer s H vs Q E (hr.deeper _) hsp
  have I0 : Inv (cxOf CX P w K mg base N qual scope f cdv (calmed A) outer s H E) [] (start N vs) H s1 := inv_start S rfl (e0.held ()) hl r x
  have I : Inv (cxN CX P w K mg base N qual scope f cdv A outer s H E) [] (start N vs) H s1 :=
    ⟨⟨I0.ok.mod, I0.ok.kind, I0.ok.glob, I0.ok.blt, I0.ok.above, I0.ok.inj, I0.ok.has, I0.ok.cab, (fun z => nomatch z), Around.frames_deeper e0.frames, I0.ok.stk, I0.ok.exf, I0.ok.bs, I0.ok.bsz, I0.ok.noex, I0.ok.exfs, I0.ok.funs, I0.ok.frf⟩,
      I0.os, I0.bare, I0.base, I0.loc, I0.cell, I0.free, I0.freeC, I0.pin, I0.hok, I0.len⟩
  refine wpAny_mono (ht [] s1 (start N vs) H _ I hq) (fun fl s' hs => ?_) fun e s' hs => hs
  have fin : ∀ {σ' : St} {H' : Hp} {v : V} {u : Value}, Inv (cxN CX P w K mg base N qual scope f cdv A outer s H E) [] σ' H' s' → RelV v u → Q v H' → CE outer P w H s Q u s' :=
    fun {σ' H' v u} J rv q => ⟨v, H', J.os, J.bare, J.base, J.hok, rv, q⟩
  cases fl with
  | ret u =>
    obtain ⟨v, σ', H', J, rv, q⟩ := hs
    exact fin J rv q
  | next =>
    obtain ⟨σ', H', J, q⟩ := hs
    exact fin (v := V.non) (u := Value.none) J rfl q
  | brk =>
    obtain ⟨_, _, _, q⟩ := hs
    exact False.elim q
  | cont =>
    obtain ⟨_, _, _, q⟩ := hs
    exact False.elim q
section
variable {P : Program} {w : World} {K : PySem.W.Frag} {mg : Str → Option Value} {base : Heap}
theorem Fun.okN {x qual : Str} {st : Stmt} {f : Addr} {fd : FuncData} {N ps : List Str} {k : Nat} {sp : Sp} (F : Fun K x qual st f fd) (S : FnScope N ps (defScope st)) (len : ∀ vs H Q E, sp vs H Q E → vs.length = ps.length)
    (hbody : ∀ (cdv : Value) (A : Around) (outer : List Env) (s : Shared) (H : Hp) (vs : List V) (Q : VK) (E : XK), RoomN k (A.deeper (envOfC qual (defScope st) s.heap.objs.size f cdv)) → sp vs H Q E →
      ∃ t, PSs (cxN CX0 P w K mg base N qual (defScope st) f cdv A outer s H E).nox (defBody st) t ∧ t { nx := fun _ H' => Q .non H', rt := Q } (start N vs) H) : FnOkN P w K mg base CX0 (k + 1) f fd ps sp := by
  obtain ⟨oc, od, kV, doc, pm, an, cdv, ct, osl, rfl, lk, hcd⟩ := F.ex
  refine fn_ofN lk hcd S len fun A outer s H vs Q E hr hsp => ?_
  obtain ⟨t, h, q⟩ := hbody cdv A outer s H vs Q E hr hsp
  exact ⟨t, h.nox, q⟩
inductive DfNE (P : Program) (w : World) (K : PySem.W.Frag) (mg : Str → Option Value) (base : Heap) (x : Str) (ps : List Str) (n : Nat) (sp : Sp) : Prop
  | mk (f : Addr) (fd : FuncData) (k : PySem.W.keepIn K (.ref f) = true) (b : Binds K fd ps []) (m : mg x = some (.ref f)) (G : FnOkN P w K mg base CX0 n f fd ps sp) : DfNE P w K mg base x ps n sp
structure DfN (P : Program) (w : World) (K : PySem.W.Frag) (mg : Str → Option Value) (base : Heap) (x : Str) (ps : List Str) (n : Nat) (sp : Sp) : Prop where
  ex : DfNE P w K mg base x ps n sp
theorem DfN.mk' {x q : Str} {st : Stmt} {ps : List Str} {n : Nat} {sp : Sp} {f : Addr} {fd : FuncData} (F : Fun K x q st f fd) (b : Binds K fd ps []) (m : mg x = some (.ref f)) (G : FnOkN P w K mg base CX0 n f fd ps sp) : DfN P w K mg base x ps n sp := ⟨⟨f, fd, F.kp, b, m, G⟩⟩
end
section
variable {X : Cx} {CX : CXT} {k : Nat} {f : Addr} {fd : FuncData} {ps : List Str} {ds : List Value} {dvs : List V} {sp : Sp} {E : XK} {x : Str} {p pos : Pos} {e : Expr} {es : List Expr} {t : TA}
theorem run_fnN {pins : List (Addr × Obj)} {σ : St} {H : Hp} {s : Shared} {Q : VK} {us : List Value} {vs : List V} (F : FnOkN X.prog X.w X.K X.mg X.base CX k f fd ps sp) (hr : RoomN k X.A) (hb : Binds X.K fd ps ds) (hd : Vals dvs ds) (hx : Passes CX X E)
    (I : Inv X pins σ H s) (r : Vals vs us) (h : sp (vs ++ dvs) H Q E) : wpAny (model X.prog X.w) X.A (call (.ref f) us) (EP X pins σ Q) X.xe s := by
  have r2 : Vals (vs ++ dvs) (us ++ ds) := r.append hd
  have hl : (us ++ ds).length = ps.length := by rw [← r2.length]; exact F.len _ _ _ _ h
  refine wpAny_call (codeAny_mono (F.run X.A X.stack s H ⟨us, []⟩ (us ++ ds) (vs ++ dvs) Q E hr I.env0 (hb s us I.kIn hl) r2 h) fun r s' hq => ?_)
  cases r with
  | error e => exact hx pins σ H s e s' I hq
  | ok fl =>
    cases fl with
    | ret u => exact I.after hq
    | next => exact False.elim hq
    | brk => exact False.elim hq
    | cont => exact False.elim hq
theorem pe_callN (F : FnOkN X.prog X.w X.K X.mg X.base CX k f fd ps sp) (hr : RoomN k X.A) (hg : Gl X x) (hm : X.mg x = some (.ref f)) (hk : PySem.W.keepIn X.K (.ref f) = true) (hb : Binds X.K fd ps ds) (hd : Vals dvs ds) (hx : Passes CX X E)
    (ha : PA X (e :: es) t) (hdb : (x == ("__debug__" : Str)) = false := by decide) (he : starEach (e :: es) X.env = (false, eval e X.env) :: starEach es X.env := by rfl) (hpl : (backTo pos (starEach es X.env)).any (·.1) = false := by rfl) :
    PE X (.Call (.Name x p) (e :: es) [] pos) (tCall sp dvs E t) := by
  intro pins s σ H Q I h
  refine wpAny_Call_Name_kw (ld_glob I hg hm ?_ hdb)
  refine PySem.W.callWith_K (h₀ := X.base) I.ok.mod.kin hk (thn (ha pos pins s σ H _ I h) fun us s1 zq => zq.elim fun vs H1 I1 r q => ⟨I1.kIn, ?_⟩) he hpl
  exact run_fnN F hr hb hd hx I1 r q
end
def ExcP (ea C : Addr) (h : Heap) : Prop := ∃ oe : Obj, h.get? ea = some oe ∧ oe.cls = .ref C ∧ oe.dict = none ∧ PySem.W.notCls oe = true
def ExcO (ea C : Addr) : HO := .ext (ExcP ea C)
section
variable {X : Cx} {pins : List (Addr × Obj)} {σ : St} {H : Hp} {s : Shared} {ea C : Addr} {oe : Obj}
theorem Inv.adopt (I : Inv X pins σ H s) (h1 : s.heap.get? ea = some oe) (hc : oe.cls = .ref C) (hd : oe.dict = none) (hn : PySem.W.notCls oe = true) (hH : H ea = none) (h0 : X.s₀.heap.get? ea = none) (nl : ea ≠ X.env.locals) (nc : ∀ v, oe.data ≠ .cell v) (np : ∀ p ∈ X.pn ++ pins, p.1 ≠ ea) :
    Inv X pins σ (upd H ea (ExcO ea C)) s := by
  have old : ∀ {b : Addr} {o : HO}, H b = some o → upd H ea (ExcO ea C) b = some o := fun q => by rw [upd_ne (ne_of_none q hH)]; exact q
  refine ⟨I.ok, I.os, I.bare, ⟨I.base.keep, I.base.slot, fun b o q n hx => ?_, I.base.there, fun b xs q => old (I.base.tups b xs q), fun b o u q => old (I.base.frzs b o u q), fun b ps q => ?_⟩, I.loc, I.cell, ?_, fun y c q => ?_, fun p hp => ?_, fun b o q => ?_, I.len⟩
  · have hb : b ≠ ea := fun z => by rw [z, h0] at q; cases q
    rw [upd_ne hb]
    exact I.base.free b o q n hx
  · obtain ⟨more, z⟩ := I.base.tbls b ps q
    exact ⟨more, old z⟩
  · rw [upd_ne (Ne.symm nl)]
    exact I.free
  · have hb : c ≠ ea := fun z => by
      obtain ⟨v, o, z1, z2⟩ := I.cell y c q
      rw [z, h1] at z1
      cases z1
      exact nc _ z2
    rw [upd_ne hb]
    exact I.freeC y c q
  · obtain ⟨q1, q2, q3⟩ := I.pin p hp
    exact ⟨q1, by rw [upd_ne (np p hp)]; exact q2, q3⟩
  · by_cases hb : b = ea
    · subst hb
      rw [upd_same] at q
      cases q
      exact ⟨⟨oe, h1, hc, hd, hn⟩, ⟨_, h1⟩, fun g1 g2 ⟨o', z1, z2⟩ k => ⟨o', k o' z1, z2⟩⟩
    · rw [upd_ne hb] at q
      exact (I.hok b o q).stay (fun _ _ _ z => z) (fun _ z => old z) fun _ _ z => old z
inductive rIsiEI (K : PySem.W.Frag) (C : Addr) (xs : List V) (H : Hp) (Q : VK) : Prop
  | mk (ea : Addr) (c : V) (u : Value) (b : Bool) (x0 : xs = [.ref ea, c]) (x1 : H ea = some (ExcO ea C)) (x2 : (∀ u', RelV c u' → u' = u)) (x3 : PySem.W.kitOne K (.ref C) u = some b) (x4 : Q (.bl b) H) : rIsiEI K C xs H Q
def rIsiE (K : PySem.W.Frag) (C : Addr) : List V → Hp → VK → Prop := fun xs H Q => rIsiEI K C xs H Q
theorem call_isiE (k : XKit X.K C) : CallR X (.builtin "isinstance") (rIsiE X.K C) := by
  intro pins s σ H xs us Q I r h
  obtain ⟨ea, c, u, b, rfl, hH, hu, hk, q⟩ := h
  cases r with
  | cons r1 rr =>
    cases rr with
    | cons r2 rr =>
      cases rr
      cases (show _ = Value.ref ea from r1)
      cases hu _ r2
      obtain ⟨⟨oe, p1, hc, hd, hn⟩, _⟩ := I.hok _ _ hH
      have J : PySem.W.InstAt s.heap ea oe C none := ⟨p1, hc, hn, by rw [hd]; trivial⟩
      exact PySem.W.kia_one (kitx_exc k) I.kIn J hk (fun z => nomatch z) fun tk => ⟨.bl b, H, I.tok tk, rfl, q⟩
end
section
variable {X : Cx} {k i j : Nat} {f C Dd : Addr} {fd : FuncData} {ps : List Str} {sp : Sp} {x y n z : Str} {p pos hp yp tp cp zp : Pos} {e0 : Expr} {es : List Expr} {ta : TA} {bmC bmD : List Value} {nC nD : String} {b0 : Stmt} {suite : List Stmt} {tx : TS}
theorem caughtB {pins : List (Addr × Obj)} {σ : St} {H : Hp} {s s' : Shared} {D : Ends} {e : Value} {rest : List ExceptHandler} (hst : X.stack = X.env :: X.outer) (hfr : X.env.frame = some X.env.locals) (ht : Hits X y C Dd bmC bmD nC nD)
    (hN : X.N.Nodup) (hi : X.N[i]? = some n) (hx : X.env.scope.names.lookup n = some .local) (hex : X.ex = []) (hsu : ∀ e, PSs (X.held e) (b0 :: suite) tx)
    (I : Inv X pins σ H s) (h : CX1 X.prog X.w X.stack H s (fun c _ H2 => c = .ref C ∧ ∀ ea H3, H2 ea = none → Same H2 H3 → H3 ea = some (ExcO ea C) → tx D.only (σ.set i (some (.ref ea))) H3) e s') :
    wpAny (model X.prog X.w) X.A (noteFrame e X.env) (fun _ s₂ => wpAny (model X.prog X.w) X.A (setFlight e none) (fun _ s₃ => wpAny (model X.prog X.w) X.A (handleBy e X.env (.ExceptHandler (some (.Name y yp)) (some n) (b0 :: suite) hp :: rest)) (SP X pins D) X.xe s₃) X.xe s₂) X.xe s' := by
  refine seen hst hfr I h fun ea C' H' h5 oe vs T ee q F mk => ?_
  subst ee
  obtain ⟨ec, q⟩ := q
  cases ec
  have I5 := mk h5 (fun _ _ => rfl) F.ent
  refine wpAny_handleBy_cons (codeAny_handlers_test (ld_glob (X := X.held (.ref ea)) (I5.held _) ht.gl ht.mg ?_ ht.db)) (by intro z; cases z)
  refine matched ht I5 F.at_ F.cls ?_
  refine codeAny_handlers_suite_as (landX (s := { s' with heap := h5 }) F.at_ F.data F.one F.ent fun h6 k1 k2 => ?_)
  have I6 := mk h6 k1 k2
  have e6 : h6.get? ea = some oe := (k1 ea (Ne.symm F.ne)).trans F.at_
  have nl : ea ≠ X.env.locals := fun z => by
    obtain ⟨m, ⟨o, es, ep, ho, hd, _⟩, _⟩ := I6.loc
    rw [← z, e6] at ho
    cases ho
    rw [F.data] at hd
    cases hd
  have n0 : X.s₀.heap.get? ea = none := by
    cases z : X.s₀.heap.get? ea with
    | none => rfl
    | some o =>
      obtain ⟨o', e'⟩ := I.base.there ea o z (by rw [hex]; simp)
      rw [F.ne0] at e'
      cases e'
  have np : ∀ p ∈ X.pn ++ pins, p.1 ≠ ea := fun p hp z => by
    have := (I.pin p hp).1
    rw [z, F.ne0] at this
    cases this
  have IP := (I6.held (.ref ea)).adopt (C := C) e6 F.cls F.dict (by unfold PySem.W.notCls; rw [F.data]) F.He n0 nl (fun v z => by rw [F.data] at z; cases z) np
  refine store_ok (X := X.held (.ref ea)) IP hN hi (.inl hx) (v := .ref ea) rfl (fun s7 I7 => ?_) (.inr hx)
  have sm : Same H' (upd H' ea (ExcO ea C)) := Same.new F.He
  refine wpAny_mono (hsu (.ref ea) pins _ (σ.set i (some (.ref ea))) _ D.only I7 (q ea _ F.He sm upd_same)) (fun fl s8 z => ?_) fun _ _ z => False.elim z
  cases fl with
  | next => obtain ⟨_, _, _, z⟩ := z; exact False.elim z
  | brk => obtain ⟨_, _, _, z⟩ := z; exact False.elim z
  | cont => obtain ⟨_, _, _, z⟩ := z; exact False.elim z
  | ret u =>
    obtain ⟨v, σ', H'', I8, r, q8⟩ := z
    have I9 := I8.unheld I.ok
    obtain ⟨m, hm, _⟩ := I9.loc
    refine wpAny_nameGoes (m := m) hx hm (by rw [I.ok.kind]; rfl) fun h' m' hn hs => ?_
    exact ⟨v, _, H'', I9.reset hn hs, r, q8⟩
def tTryB (sp : Sp) (C : Addr) (i : Nat) (g : Ends → St → V → Hp → Prop) (ta : TA) (tx : TS) : TS := fun D σ H => ta σ H fun vs H1 => sp vs H1 (fun v H2 => g D σ v H2) (fun c _ H2 => c = .ref C ∧ ∀ ea H3, H2 ea = none → Same H2 H3 → H3 ea = some (ExcO ea C) → tx D.only (σ.set i (some (.ref ea))) H3)
theorem ps_tryB (hst : X.stack = X.env :: X.outer) (hfr : X.env.frame = some X.env.locals) (hex : X.ex = []) (F : FnOk X.prog X.w X.K X.mg X.base (CX1 X.prog X.w) k f fd ps sp) (hr : Room k X.A) (hg : Gl X x) (hm : X.mg x = some (.ref f)) (hk : PySem.W.keepIn X.K (.ref f) = true) (hb : Binds X.K fd ps [])
    (ha : PA X.nox (e0 :: es) ta) (ht : Hits X y C Dd bmC bmD nC nD) (hN : X.N.Nodup) (hi : X.N[i]? = some n) (hl : X.env.scope.names.lookup n = some .local) (hj : X.N[j]? = some z) (hz : X.env.scope.names.lookup z = some .local) (hsu : ∀ e, PSs (X.held e) (b0 :: suite) tx)
    (hdb : (x == ("__debug__" : Str)) = false := by decide) (he : starEach (e0 :: es) X.env = (false, eval e0 X.env) :: starEach es X.env := by rfl) (hpl : (backTo cp (starEach es X.env)).any (·.1) = false := by rfl)
    (hs : swapsWith (.Call (.Name x p) (e0 :: es) [] cp) (some (.Name z zp)) pos.line X.env = pure false := by rfl) :
    PS X (.Try [.Assign [.Name z zp] (.Call (.Name x p) (e0 :: es) [] cp) pos] [.ExceptHandler (some (.Name y yp)) (some n) (b0 :: suite) hp] [] [] tp) (tTryB sp C i (fun D σ v H2 => D.nx (σ.set j (some v)) H2) ta tx) := by
  intro pins s σ H D I h
  refine wpAny_Try_except (wpAny_execs_cons (thn (Q := SP X pins D) (wpAny_Assign_Name (thn (run_try F hr hg hm hk hb ha (fun H1 s1 e s' I1 hc => caughtB hst hfr ht hN hi hl hex hsu I1 hc) I h hdb he hpl) fun v s1 zq => zq.elim fun _ H1 I1 r1 q1 => store_ok I1 hN hj (.inl hz) r1 (fun s2 I2 => ⟨_, H1, I2, q1⟩) (.inr hz)) hs) fun fl s1 z => ?_))
  cases fl with
  | next => exact wpAny_execs_nil (wpAny_execs_nil z)
  | brk => exact z
  | cont => exact z
  | ret u => exact z
end
end L2
namespace L2
open PySem PySem.Spec PyProof.Rows
inductive spHolder1I (C : Addr) (vs : List V) (H : Hp) (Q : VK) (E : XK) : Prop
  | mk (d : Dc) (t : Addr) (xs : List V) (x0 : vs = [d.val, .ref t]) (x1 : d.At H) (x2 : H t = some (.tup xs)) (x3 : (∀ z ∈ xs, Dc.StepV z)) (x4 : (∀ us lv e, xs = us ++ [lv] → d.sub us = some e → ∀ H', Same H H' → Q e.val H')) (x5 : ((xs = [] ∨ ∃ us lv, xs = us ++ [lv] ∧ d.sub us = none) → ∀ H', Same H H' → E (.ref C) none H')) : spHolder1I C vs H Q E
def spHolder1 (C : Addr) : Sp := fun vs H Q E => spHolder1I C vs H Q E
inductive spFull1I (C : Addr) (vs : List V) (H : Hp) (Q : VK) (E : XK) : Prop
  | mk (d : Dc) (t : Addr) (xs : List V) (x0 : vs = [d.val, .ref t]) (x1 : d.At H) (x2 : H t = some (.tup xs)) (x3 : (∀ z ∈ xs, Dc.StepV z)) (x4 : (∀ us lv e x, xs = us ++ [lv] → d.sub us = some e → e.sub [lv] = some x → ∀ H', Same H H' → Q e.val H')) (x5 : ((xs = [] ∨ d.sub xs = none) → ∀ H', Same H H' → E (.ref C) none H')) : spFull1I C vs H Q E
def Dc.NoPut (d : Dc) (xs : List V) : Prop := ∀ us lv e, xs = us ++ [lv] → d.sub us = some e → e.room lv = false
inductive spPut1I (C : Addr) (vs : List V) (H : Hp) (Q : VK) (E : XK) : Prop
  | mk (d : Dc) (v : Dc) (t : Addr) (xs : List V) (x0 : vs = [d.val, .ref t, v.val]) (x1 : d.At H) (x2 : d.slim) (x3 : d.size ≤ 800) (x4 : v.At H) (x5 : v.slim) (x6 : v.size ≤ 900) (x7 : H t = some (.tup xs)) (x8 : (∀ z ∈ xs, Dc.StepV z)) (x9 : (∀ us lv e, xs = us ++ [lv] → d.sub us = some e → e.room lv = true → ∀ (d' : Dc) (H' : Hp), Fresh H H' d' → Dc.Eqv (d.setP us (e.insN lv v)) d' → Q d'.val H')) (x10 : (d.NoPut xs → ∀ H', Same H H' → E (.ref C) none H')) : spPut1I C vs H Q E
def spPut1 (C : Addr) : Sp := fun vs H Q E => spPut1I C vs H Q E
inductive spTaken1I (C : Addr) (vs : List V) (H : Hp) (Q : VK) (E : XK) : Prop
  | mk (d : Dc) (t : Addr) (xs : List V) (x0 : vs = [d.val, .ref t]) (x1 : d.At H) (x2 : d.slim) (x3 : d.size ≤ 900) (x4 : H t = some (.tup xs)) (x5 : (∀ z ∈ xs, Dc.StepV z)) (x6 : (∀ us lv e x, xs = us ++ [lv] → d.sub us = some e → e.sub [lv] = some x → ∀ (q : Addr) (d' x' : Dc) (H' : Hp), FreshL H H' [d', x'] → H' q = some (.tup [d'.val, x'.val]) → Dc.Eqv (d.setP us (e.delN lv)) d' → Dc.Eqv x x' → Q (.ref q) H')) (x7 : ((xs = [] ∨ d.sub xs = none) → ∀ H', Same H H' → E (.ref C) none H')) : spTaken1I C vs H Q E
inductive spStandsI (vs : List V) (H : Hp) (Q : VK) (u3_ : XK) : Prop
  | mk (d : Dc) (t : Addr) (xs : List V) (x0 : vs = [d.val, .ref t]) (x1 : d.At H) (x2 : H t = some (.tup xs)) (x3 : (∀ z ∈ xs, Dc.StepV z)) (x4 : Q (.bl (d.sub xs).isSome) H) : spStandsI  vs H Q u3_
def spStands : Sp := fun vs H Q u3_ => spStandsI  vs H Q u3_
def OnlyAt (as : List Addr) (H H' : Hp) : Prop := ∀ a o, a ∉ as → H a = some o → H' a = some o
inductive spSpoilI (n : Nat) (vs : List V) (H : Hp) (Q : VK) (u3_ : XK) : Prop
  | mk (d : Dc) (x0 : vs = [d.val]) (x1 : d.At H) (x2 : d.addrs.Nodup) (x3 : (∀ a ∈ d.addrs, ∀ o u, H a ≠ some (.frz o u))) (x4 : d.deep ≤ n) (x5 : d.size ≤ 900) (x6 : ∀ H', OnlyAt d.addrs H H' → Q .non H') : spSpoilI n vs H Q u3_
def spSpoil (n : Nat) : Sp := fun vs H Q u3_ => spSpoilI n vs H Q u3_
inductive spNoPartI (C : Addr) (vs : List V) (H : Hp) (Q : VK) (u3_ : XK) : Prop
  | mk (ea : Addr) (x0 : vs = [.ref ea]) (x1 : H ea = some (ExcO ea C)) (x2 : ∀ H', Same H H' → Q (.bl true) H') : spNoPartI C vs H Q u3_
def spNoPart (C : Addr) : Sp := fun vs H Q u3_ => spNoPartI C vs H Q u3_
theorem Dc.none_eqv {d t0 : Dc} {xs : List V} (wd : d.Wf) (wt : t0.Wf) (q : Dc.Eqv d t0) (h : t0.sub xs = none) : d.sub xs = none := by
  cases z : d.sub xs with
  | none => rfl
  | some e =>
    obtain ⟨e', h1, _⟩ := Dc.Eqv.sub wd wt q z
    rw [h] at h1
    cases h1
theorem snoc_inj {us us' : List V} {lv lv' : V} (h : us ++ [lv] = us' ++ [lv']) : us = us' ∧ lv = lv' := by
  have := List.append_inj' h rfl
  exact ⟨this.1, by simpa using this.2⟩
end L2
namespace L2
open PySem PySem.Spec PyProof.Rows
theorem Dc.lookup_idx {nm : Str} {x : Dc} : ∀ {ks : List Str} {xs : List Dc} {i : Nat}, ks.Nodup → ks[i]? = some nm → xs[i]? = some x → (ks.zip xs).lookup nm = some x := by
  intro ks
  induction ks with
  | nil => intro xs i _ h _; simp at h
  | cons y r ih =>
    intro xs i nd h1 h2
    cases xs with
    | nil => simp at h2
    | cons z t =>
      cases i with
      | zero => simp at h1 h2; subst h1 h2; simp
      | succ i =>
        obtain ⟨n1, n2⟩ := List.nodup_cons.mp nd
        have h1' : r[i]? = some nm := by simpa using h1
        have ne : nm ≠ y := fun z => n1 (z ▸ List.mem_of_getElem? h1')
        have : (nm == y) = false := by simpa using ne
        simp only [List.zip_cons_cons, List.lookup_cons, this]
        exact ih n2 h1' (by simpa using h2)
inductive spLPutI (vs : List V) (H : Hp) (Q : VK) (u3_ : XK) : Prop
  | mk (d : Dc) (v : Dc) (t : Addr) (xs : List V) (x0 : vs = [d.val, .ref t, v.val]) (x1 : d.At H) (x2 : d.size ≤ 24) (x3 : v.At H) (x4 : v.size ≤ 24) (x5 : H t = some (.tup xs)) (x6 : (∀ z ∈ xs, Dc.StepV z)) (x7 : (∀ us lv e, xs = us ++ [lv] → d.sub us = some e → e.room lv = true → ∀ (g : Addr) (d' : Dc) (H' : Hp), Fresh H H' d' → H' g = some (.tup [d'.val]) → Dc.Eqv (d.setP us (e.insN lv v)) d' → Q (.ref g) H')) (x8 : (d.NoPut xs → ∀ H', Same H H' → Q .non H')) : spLPutI  vs H Q u3_
def spLPut : Sp := fun vs H Q u3_ => spLPutI  vs H Q u3_
def spAskedP : Sp := spLPut
inductive spMoreI (vs : List V) (H : Hp) (Q : VK) (u3_ : XK) : Prop
  | mk (d : Dc) (t : Addr) (n : Addr) (xs : List V) (ys : List Str) (c : Int) (e : Dc) (x0 : vs = [d.val, .ref t, .ref n, .int c]) (x1 : d.At H) (x2 : d.size ≤ 24) (x3 : H t = some (.tup xs)) (x4 : (∀ z ∈ xs, Dc.StepV z)) (x5 : xs.length ≤ 40) (x6 : d.sub xs = some e) (x7 : H n = some (.lst (ys.map V.str))) (x8 : ys.length = 6) (x9 : (∀ y ∈ ys, nameB y = true)) (x10 : ∀ (w : Addr) (z : V) (H' : Hp), Same H H' → H' w = some (.tup (xs ++ [z])) → Dc.StepV z → Q (.ref w) H') : spMoreI  vs H Q u3_
def spMore : Sp := fun vs H Q u3_ => spMoreI  vs H Q u3_
inductive spRightPI (vs : List V) (H : Hp) (Q : VK) (u3_ : XK) : Prop
  | mk (d : Dc) (v : Dc) (t : Addr) (xs : List V) (x0 : vs = [d.val, .ref t, v.val]) (x1 : d.At H) (x2 : d.size ≤ 24) (x3 : v.At H) (x4 : v.size ≤ 24) (x5 : H t = some (.tup xs)) (x6 : (∀ z ∈ xs, Dc.StepV z)) (x7 : ∀ H', Same H H' → Q (.bl true) H') : spRightPI  vs H Q u3_
def spRightP : Sp := fun vs H Q u3_ => spRightPI  vs H Q u3_
theorem Fresh.down {H H1 H2 : Hp} {d : Dc} (D : Fresh H1 H2 d) (s : Same H H1) : Fresh H H2 d := ⟨s.trans D.same, D.at_, D.nd, D.own, fun a ha => s.free (D.new a ha)⟩
end L2
namespace L2
open PySem PySem.Spec PyProof.Rows
inductive spLTakenI (vs : List V) (H : Hp) (Q : VK) (u3_ : XK) : Prop
  | mk (d : Dc) (t : Addr) (xs : List V) (x0 : vs = [d.val, .ref t]) (x1 : d.At H) (x2 : d.size ≤ 24) (x3 : H t = some (.tup xs)) (x4 : (∀ z ∈ xs, Dc.StepV z)) (x5 : (∀ us lv e x, xs = us ++ [lv] → d.sub us = some e → e.sub [lv] = some x → ∀ (g : Addr) (d' x' : Dc) (H' : Hp), FreshL H H' [d', x'] → H' g = some (.tup [d'.val, x'.val]) → Dc.Eqv (d.setP us (e.delN lv)) d' → Dc.Eqv x x' → Q (.ref g) H')) (x6 : ((xs = [] ∨ d.sub xs = none) → ∀ H', Same H H' → Q .non H')) : spLTakenI  vs H Q u3_
inductive spAskedTI (vs : List V) (H : Hp) (Q : VK) (u3_ : XK) : Prop
  | mk (d : Dc) (t : Addr) (xs : List V) (x0 : vs = [d.val, .ref t]) (x1 : d.At H) (x2 : d.size ≤ 24) (x3 : H t = some (.tup xs)) (x4 : (∀ z ∈ xs, Dc.StepV z)) (x5 : (∀ us lv e x, xs = us ++ [lv] → d.sub us = some e → e.sub [lv] = some x → ∀ (g g0 : Addr) (d' x' : Dc) (H' : Hp), FreshL H H' [d', x'] → H' g0 = some (.tup [d'.val, x'.val]) → H' g = some (.tup [.ref g0]) → Dc.Eqv (d.setP us (e.delN lv)) d' → Dc.Eqv x x' → Q (.ref g) H')) (x6 : ((xs = [] ∨ d.sub xs = none) → ∀ H', Same H H' → Q .non H')) : spAskedTI  vs H Q u3_
inductive spRightTI (vs : List V) (H : Hp) (Q : VK) (u3_ : XK) : Prop
  | mk (d : Dc) (t : Addr) (xs : List V) (x0 : vs = [d.val, .ref t]) (x1 : d.At H) (x2 : d.size ≤ 24) (x3 : H t = some (.tup xs)) (x4 : (∀ z ∈ xs, Dc.StepV z)) (x5 : ∀ H', Same H H' → Q (.bl true) H') : spRightTI  vs H Q u3_
end L2
namespace L2
open PySem PySem.Spec PyProof.Rows
inductive spChanged1I (C : Addr) (vs : List V) (H : Hp) (Q : VK) (E : XK) : Prop
  | mk (d : Dc) (v : Dc) (t : Addr) (xs : List V) (x0 : vs = [d.val, .ref t, v.val]) (x1 : d.At H) (x2 : d.slim) (x3 : d.size ≤ 800) (x4 : v.At H) (x5 : v.slim) (x6 : v.size ≤ 900) (x7 : H t = some (.tup xs)) (x8 : (∀ z ∈ xs, Dc.StepV z)) (x9 : (∀ x, d.sub xs = some x → ∀ (d' : Dc) (H' : Hp), Fresh H H' d' → Dc.Eqv (d.setP xs v) d' → Q d'.val H')) (x10 : (d.sub xs = none → ∀ H', Same H H' → E (.ref C) none H')) : spChanged1I C vs H Q E
inductive spLChangedI (vs : List V) (H : Hp) (Q : VK) (u3_ : XK) : Prop
  | mk (d : Dc) (v : Dc) (t : Addr) (xs : List V) (x0 : vs = [d.val, .ref t, v.val]) (x1 : d.At H) (x2 : d.size ≤ 24) (x3 : v.At H) (x4 : v.size ≤ 24) (x5 : H t = some (.tup xs)) (x6 : (∀ z ∈ xs, Dc.StepV z)) (x7 : (∀ x, d.sub xs = some x → ∀ (g : Addr) (d' : Dc) (H' : Hp), Fresh H H' d' → H' g = some (.tup [d'.val]) → Dc.Eqv (d.setP xs v) d' → Q (.ref g) H')) (x8 : (d.sub xs = none → ∀ H', Same H H' → Q .non H')) : spLChangedI  vs H Q u3_
end L2

set_option Elab.async false
set_option linter.all false
set_option maxRecDepth 100000
set_option maxHeartbeats 40000000
namespace K21
open PySem L2
def top (i : Nat) : Stmt := PySem.Challenge.pw_patchbough_k21_put.main.body.getD i (.Pass ⟨0, 0, 0, 0⟩)
abbrev sStepsOf : Stmt := top 1
abbrev sOuterCopy : Stmt := top 2
abbrev sCopyOf : Stmt := top 3
abbrev sHolds : Stmt := top 14
abbrev sFoundAt : Stmt := top 15
abbrev sHolderOf : Stmt := top 17
abbrev sHasRoom : Stmt := top 18
abbrev sPutAt : Stmt := top 19
abbrev sCell : Stmt := top 21
abbrev sMix : Stmt := top 22
abbrev sNames : Stmt := top 23
abbrev sLeaf : Stmt := top 24
abbrev sPart : Stmt := top 25
abbrev sLaid : Stmt := top 26
abbrev sDoc : Stmt := top 27
abbrev sCopy : Stmt := top 28
abbrev sAlike : Stmt := top 29
abbrev sPaths : Stmt := top 30
abbrev sAt : Stmt := top 31
abbrev sStands : Stmt := top 32
abbrev sValue : Stmt := top 33
abbrev sPut : Stmt := top 34
abbrev sNoPart : Stmt := top 35
abbrev sMore : Stmt := top 36
abbrev sSpoil : Stmt := top 37
abbrev sAsked : Stmt := top 38
abbrev sRight : Stmt := top 39
abbrev sLaw : Stmt := top 40
inductive Ex1_2 {α0 : Type} (p0 p1 : α0 → Prop) : Prop
  | mk (x0 : α0) (h0 : p0 x0) (h1 : p1 x0) : Ex1_2 p0 p1
inductive Ex2_2 {α0 α1 : Type} (p0 p1 : α0 → α1 → Prop) : Prop
  | mk (x0 : α0) (x1 : α1) (h0 : p0 x0 x1) (h1 : p1 x0 x1) : Ex2_2 p0 p1
inductive Ex2_9 {α0 α1 : Type} (p0 p1 p2 p3 p4 p5 p6 p7 p8 : α0 → α1 → Prop) : Prop
  | mk (x0 : α0) (x1 : α1) (h0 : p0 x0 x1) (h1 : p1 x0 x1) (h2 : p2 x0 x1) (h3 : p3 x0 x1) (h4 : p4 x0 x1) (h5 : p5 x0 x1) (h6 : p6 x0 x1) (h7 : p7 x0 x1) (h8 : p8 x0 x1) : Ex2_9 p0 p1 p2 p3 p4 p5 p6 p7 p8
inductive Ex3_11 {α0 α1 α2 : Type} (p0 p1 p2 p3 p4 p5 p6 p7 p8 p9 p10 : α0 → α1 → α2 → Prop) : Prop
  | mk (x0 : α0) (x1 : α1) (x2 : α2) (h0 : p0 x0 x1 x2) (h1 : p1 x0 x1 x2) (h2 : p2 x0 x1 x2) (h3 : p3 x0 x1 x2) (h4 : p4 x0 x1 x2) (h5 : p5 x0 x1 x2) (h6 : p6 x0 x1 x2) (h7 : p7 x0 x1 x2) (h8 : p8 x0 x1 x2) (h9 : p9 x0 x1 x2) (h10 : p10 x0 x1 x2) : Ex3_11 p0 p1 p2 p3 p4 p5 p6 p7 p8 p9 p10
inductive Ex4_4 {α0 α1 α2 α3 : Type} (p0 p1 p2 p3 : α0 → α1 → α2 → α3 → Prop) : Prop
  | mk (x0 : α0) (x1 : α1) (x2 : α2) (x3 : α3) (h0 : p0 x0 x1 x2 x3) (h1 : p1 x0 x1 x2 x3) (h2 : p2 x0 x1 x2 x3) (h3 : p3 x0 x1 x2 x3) : Ex4_4 p0 p1 p2 p3
inductive Ex7_6 {α0 α1 α2 α3 α4 α5 α6 : Type} (p0 p1 p2 p3 p4 p5 : α0 → α1 → α2 → α3 → α4 → α5 → α6 → Prop) : Prop
  | mk (x0 : α0) (x1 : α1) (x2 : α2) (x3 : α3) (x4 : α4) (x5 : α5) (x6 : α6) (h0 : p0 x0 x1 x2 x3 x4 x5 x6) (h1 : p1 x0 x1 x2 x3 x4 x5 x6) (h2 : p2 x0 x1 x2 x3 x4 x5 x6) (h3 : p3 x0 x1 x2 x3 x4 x5 x6) (h4 : p4 x0 x1 x2 x3 x4 x5 x6) (h5 : p5 x0 x1 x2 x3 x4 x5 x6) : Ex7_6 p0 p1 p2 p3 p4 p5
end K21

set_option Elab.async false
set_option linter.all false
set_option maxRecDepth 100000
set_option maxHeartbeats 40000000
namespace K21
open PySem L2
section
variable {P : Program} {w : World} {K : PySem.W.Frag} {mg : Str → Option Value} {base : Heap}
theorem scStepsOf : FnScope ["doc"] ["doc"] (defScope sStepsOf) := ⟨rfl, rfl, rfl, by decide +kernel, rfl, by decide +kernel, by decide +kernel⟩
theorem ok_StepsOf {f : Addr} {fd : FuncData} (F : Fun K "steps_of" "steps_of" sStepsOf f fd) (T : Txt mg) : FnOk P w K mg base CX0 1 f fd ["doc"] spSteps := by
  refine F.ok scStepsOf (fun vs H Q E h => ?_) (fun cdv A outer s H vs Q E hr h => ?_)
  · obtain ⟨d, rfl, hat, hsl, hsz, q⟩ := h
    rfl
  · obtain ⟨d, rfl, hat, hsl, hsz, q⟩ := h
    have nd := scStepsOf.nd
    have hu := hu_of hr
    refine ⟨_, (pss_cons (ps_if (pt_val (pe_callB call_isiN rfl T.isinstance b_isinstance (pa_cons (pv 0) (pa_cons (pe_bltn (v := .ty "list") rfl T.list b_list rfl) pa_nil)))) (pss_one (ps_ret (pe_callTy (call_list_rng rfl) rfl T.list b_list (pa_cons (pe_range rfl T.range (pa_cons (pe_callB call_len_seq rfl T.len PySem.boot_len (pa_cons (pv 0) pa_nil)) pa_nil)) pa_nil)))) pss_nil)
      (pss_cons (ps_if (pt_val (pe_callB call_isiN rfl T.isinstance b_isinstance (pa_cons (pv 0) (pa_cons (pe_bltn (v := .ty "dict") rfl T.dict b_dict rfl) pa_nil)))) (pss_one (ps_ret (pe_callB (call_sortedD rfl) rfl T.sorted b_sorted (pa_cons (pv 0) pa_nil)))) pss_nil)
      (pss_one (ps_ret (pe_lst pa_nil))))), ?_⟩
    cases d with
    | leaf v =>
      refine ⟨_, rfl, _, "list", Dc.tyS (.leaf v), rfl, rfl, Dc.tyN hat, _, rfl, iteBF (by cases v <;> rfl) ?_⟩
      refine ⟨_, rfl, _, "dict", Dc.tyS (.leaf v), rfl, rfl, Dc.tyN hat, _, rfl, iteBF (by cases v <;> rfl) ?_⟩
      exact ⟨Nat.zero_le _, fun p hp => q p [] _ (Same.new hp) hp upd_same rfl⟩
    | row a xs =>
      refine ⟨_, rfl, _, "list", _, rfl, rfl, Dc.tyN hat, _, rfl, iteBT rfl ?_⟩
      simp only [Dc.At] at hat
      simp only [Dc.size] at hsz
      have := Dc.lenL xs
      refine ⟨_, rfl, a, _, rfl, .inl (.inl hat.1), _, rfl, fun r hr => ?_⟩
      refine ⟨r, xs.length, rfl, by rw [upd_same, List.length_map], by omega, fun p hp => ?_⟩
      exact q p _ _ ((Same.new hr).trans (Same.new hp)) ((Same.new hr).free hp) upd_same rfl
    | tab a ks xs =>
      refine ⟨_, rfl, _, "list", _, rfl, rfl, Dc.tyN hat, _, rfl, iteBF rfl ?_⟩
      refine ⟨_, rfl, _, "dict", _, rfl, rfl, Dc.tyN hat, _, rfl, iteBT rfl ?_⟩
      simp only [Dc.At] at hat
      simp only [Dc.slim] at hsl
      have kk := Dc.kvs_keys (ks := ks) (xs := xs) hat.2.1
      have kl : (Dc.kvs ks xs).length = ks.length := by
        have := congrArg List.length kk
        simpa using this
      exact ⟨_, rfl, a, _, ks, rfl, hat.1, kk, by rw [kl, hat.2.1]; exact hsl.1, fun p ss' H' np s hp perm srt => q p _ H' s np hp ⟨ss', rfl, perm, srt⟩⟩
end
end K21

set_option Elab.async false
set_option linter.all false
set_option maxRecDepth 100000
set_option maxHeartbeats 40000000
namespace K21
open PySem L2
section
variable {P : Program} {w : World} {K : PySem.W.Frag} {mg : Str → Option Value} {base : Heap}
theorem scOuterCopy : FnScope ["doc"] ["doc"] (defScope sOuterCopy) := ⟨rfl, rfl, rfl, by decide +kernel, rfl, by decide +kernel, by decide +kernel⟩
theorem ok_OuterCopy {f : Addr} {fd : FuncData} (F : Fun K "outer_copy" "outer_copy" sOuterCopy f fd) (T : Txt mg) : FnOk P w K mg base CX0 1 f fd ["doc"] spOuter := by
  refine F.ok scOuterCopy (fun vs H Q E h => ?_) (fun cdv A outer s H vs Q E hr h => ?_)
  · obtain ⟨d, rfl, hat, q⟩ := h
    rfl
  · obtain ⟨d, rfl, hat, q⟩ := h
    have nd := scOuterCopy.nd
    have hu := hu_of hr
    refine ⟨_, (pss_cons (ps_if (pt_val (pe_callB call_isiN rfl T.isinstance b_isinstance (pa_cons (pv 0) (pa_cons (pe_bltn (v := .ty "list") rfl T.list b_list rfl) pa_nil)))) (pss_one (ps_ret (pe_callTy call_list_of rfl T.list b_list (pa_cons (pv 0) pa_nil)))) pss_nil)
      (pss_cons (ps_if (pt_val (pe_callB call_isiN rfl T.isinstance b_isinstance (pa_cons (pv 0) (pa_cons (pe_bltn (v := .ty "dict") rfl T.dict b_dict rfl) pa_nil)))) (pss_one (ps_ret (pe_callTy call_dict_copy rfl T.dict b_dict (pa_cons (pv 0) pa_nil)))) pss_nil)
      (pss_one (ps_ret (pv 0))))), ?_⟩
    cases d with
    | leaf v =>
      refine ⟨_, rfl, _, "list", Dc.tyS (.leaf v), rfl, rfl, Dc.tyN hat, _, rfl, iteBF (by cases v <;> rfl) ?_⟩
      refine ⟨_, rfl, _, "dict", Dc.tyS (.leaf v), rfl, rfl, Dc.tyN hat, _, rfl, iteBF (by cases v <;> rfl) ?_⟩
      exact ⟨_, rfl, q⟩
    | row a xs =>
      refine ⟨_, rfl, _, "list", _, rfl, rfl, Dc.tyN hat, _, rfl, iteBT rfl ?_⟩
      simp only [Dc.At] at hat
      exact ⟨_, rfl, a, _, rfl, .inl (.inl hat.1), q⟩
    | tab a ks xs =>
      refine ⟨_, rfl, _, "list", _, rfl, rfl, Dc.tyN hat, _, rfl, iteBF rfl ?_⟩
      refine ⟨_, rfl, _, "dict", _, rfl, rfl, Dc.tyN hat, _, rfl, iteBT rfl ?_⟩
      simp only [Dc.At] at hat
      exact ⟨_, rfl, a, _, rfl, hat.1, q⟩
end
end K21

set_option Elab.async false
set_option linter.all false
set_option maxRecDepth 100000
set_option maxHeartbeats 40000000
namespace K21
open PySem L2
section
variable {P : Program} {w : World} {K : PySem.W.Frag} {mg : Str → Option Value} {base : Heap}
theorem scCopyOf : FnScope ["doc", "told", "waiting", "part", "steps", "step"] ["doc"] (defScope sCopyOf) := ⟨rfl, rfl, rfl, by decide +kernel, rfl, by decide +kernel, by decide +kernel⟩
theorem ok_CopyOf {f : Addr} {fd : FuncData} (F : Fun K "copy_of" "copy_of" sCopyOf f fd) (T : Txt mg) (DStepsOf : Df P w K mg base "steps_of" ["doc"] 1 spSteps) (DOuterCopy : Df P w K mg base "outer_copy" ["doc"] 1 spOuter) : FnOk P w K mg base CX0 2 f fd ["doc"] spCopyOf := by
  obtain ⟨fStepsOf, dStepsOf, kStepsOf, bStepsOf, mStepsOf, GStepsOf⟩ := DStepsOf.ex
  obtain ⟨fOuterCopy, dOuterCopy, kOuterCopy, bOuterCopy, mOuterCopy, GOuterCopy⟩ := DOuterCopy.ex
  refine F.ok scCopyOf (fun vs H Q E h => ?_) (fun cdv A outer s H vs Q E hr h => ?_)
  · obtain ⟨d, rfl, hat, hsl, hsz, q⟩ := h
    rfl
  · obtain ⟨d, rfl, hat, hsl, hsz, q⟩ := h
    have nd := scCopyOf.nd
    have hu := hu_of hr
    have hrStepsOf : Room 1 _ := hr.mono (by first | decide | omega)
    have hrOuterCopy : Room 1 _ := hr.mono (by first | decide | omega)
    refine ⟨_, (pss_cons (ps_set (i := 1) nd rfl (Or.inl rfl) (pe_call GOuterCopy hrOuterCopy rfl mOuterCopy kOuterCopy bOuterCopy .nil pass0 (pa_cons (pv 0) pa_nil)))
      (pss_cons (ps_set (i := 2) nd rfl (Or.inl rfl) (pe_lst (pa_cons (pv 1) pa_nil)))
      (pss_cons (ps_while PassesOwn.never (pt_truth (pv 2) (fun _ => rfl)) (pss_cons (ps_set (i := 3) nd rfl (Or.inl rfl) (pe_bm0 PySem.F.plainAttrs_list PySem.F.slot_list_pop PySem.F.type_list_pop mt_pop (pv 2)))
      (pss_cons (ps_set (i := 4) nd rfl (Or.inl rfl) (pe_call GStepsOf hrStepsOf rfl mStepsOf kStepsOf bStepsOf .nil pass0 (pa_cons (pv 3) pa_nil)))
      (pss_one (ps_for PassesOwn.never rfl (pi_list (pv 4)) (pg_name (i := 5) nd rfl (Or.inl rfl)) (pss_cons (ps_alt (ps_asg (pe_call GOuterCopy hrOuterCopy rfl mOuterCopy kOuterCopy bOuterCopy .nil pass0 (pa_cons (pe_alt (pe_ix (r := rIxL K) ix_list (pv 3) (pv 5) (fun _ _ => rfl)) (pe_dget hu (pv 3) (pv 5) (fun _ _ => rfl))) pa_nil)) (pg_sub (pv 3) (pv 5) set_list)) (ps_dput hu (pv 3) (pv 5) (pe_call GOuterCopy hrOuterCopy rfl mOuterCopy kOuterCopy bOuterCopy .nil pass0 (pa_cons (pe_alt (pe_ix (r := rIxL K) ix_list (pv 3) (pv 5) (fun _ _ => rfl)) (pe_dget hu (pv 3) (pv 5) (fun _ _ => rfl))) pa_nil)) rfl))
      (pss_one (ps_expr (pe_bm PySem.F.plainAttrs_list PySem.F.slot_list_append PySem.F.type_list_append mt_append (pv 2) (pa_cons (pe_alt (pe_ix (r := rIxL K) ix_list (pv 3) (pv 5) (fun _ _ => rfl)) (pe_dget hu (pv 3) (pv 5) (fun _ _ => rfl))) pa_nil))))))))))
      (pss_one (ps_ret (pv 1)))))), ?_⟩
    refine ⟨_, rfl, d, rfl, hat, OuterQ.of (Same.refl H) hat fun tv Hi si oi fi => ?_⟩
    refine ⟨_, rfl, one_line, fun L hL => ?_⟩
    have sL := Same.new (o := .lst [tv]) hL
    have nL : H L = none := si.free hL
    have tne : tv ≠ .ref L := fun z => (OuterQ_ne hat oi z) hL
    have C0 : CpInv H (upd Hi L (.lst [tv])) L tv d [(tv, d)] := CpInv.start (si.trans sL) nL upd_same (oi.up fun a e u h => sL _ _ h) hat hsl tne
    dsimp only [gName, tSeq]
    refine while_W (fun m σ Hw => Ex4_4 (fun (ps : List (V × Dc)) (o3 o4 o5 : Option V) => σ = [some d.val, some tv, some (.ref L), o3, o4, o5]) (fun (ps : List (V × Dc)) (o3 o4 o5 : Option V) => CpInv H Hw L tv d ps) (fun (ps : List (V × Dc)) (o3 o4 o5 : Option V) => Dc.sizeL (ps.map (·.2)) ≤ d.size) (fun (ps : List (V × Dc)) (o3 o4 o5 : Option V) => m = Dc.sizeL (ps.map (·.2))))
      (Dc.sizeL [d]) ⟨[(tv, d)], none, none, none, rfl, C0, by simp [Dc.sizeL], rfl⟩ ?_ (fun σ H Q Q' h ⟨v, e, k, t, q⟩ => ⟨v, e, k, t, h _ _ q⟩)
    rintro m σ Hw ⟨ps, o3, o4, o5, rfl, C, hm, rfl⟩
    refine ⟨_, rfl, _, .inl ⟨_, SqL.of C.eL, rfl⟩, ?_⟩
    by_cases hne : ps = []
    · subst hne
      refine iteF ⟨_, rfl, ?_⟩
      obtain ⟨e, ev, el, ef⟩ := C.done
      rw [← ev]
      exact q e Hw ef el
    obtain ⟨qs, p, rfl⟩ : ∃ qs p, ps = qs ++ [p] := ⟨ps.dropLast, ps.getLast hne, (List.dropLast_concat_getLast hne).symm⟩
    obtain ⟨v, node⟩ := p
    refine iteBT (by simp) ?_
    have szq : Dc.sizeL ((qs ++ [(v, node)]).map (·.2)) = Dc.sizeL (qs.map (·.2)) + node.size := by rw [List.map_append, Dc.sizeL_append]; simp [Dc.sizeL]
    have eLw := C.eL
    refine ⟨_, rfl, .inl ⟨rfl, _, SqL.of eLw⟩, L, _, v, rfl, rfl, eLw, by simp, ?_⟩
    have dl : (List.map (·.1) (qs ++ [(v, node)])).dropLast = qs.map (·.1) := by rw [List.map_append]; simp
    rw [dl]
    obtain ⟨nat, nsl⟩ := C.src (v, node) (by simp)
    have on := C.out (v, node) (by simp)
    have s1 : Same H (upd Hw L (.lst (qs.map (·.1)))) := C.same.put nL
    have lq : qs.length ≤ Dc.sizeL (qs.map (·.2)) := by have := Dc.lenL (qs.map (·.2)); rw [List.length_map] at this; exact this
    cases node with
    | leaf v' =>
      obtain ⟨rfl, lv⟩ := (show v = v' ∧ Dc.Lf v' from on)
      refine ⟨_, rfl, .leaf v, rfl, lv, trivial, by simp [Dc.size], fun p l H2 s2 np hp st => ?_⟩
      cases (show l = [] from st)
      refine ⟨_, rfl, p, rfl, ⟨_, SqL.of hp⟩, for_list (xs := []) (fun i σ Hi => Ex1_2 (fun o5 => σ = [some d.val, some tv, some (.ref L), some v, some (.ref p), o5]) (fun o5 => Hi = H2)) ⟨_, rfl, rfl⟩ (fun i σ Hi _ ⟨_, _, e⟩ => by rw [e]; exact SqL.of hp) (fun i x σ Hi hx => by simp at hx) ?_⟩
      rintro σ Hi ⟨o5, rfl, rfl⟩
      refine ⟨Dc.sizeL (qs.map (·.2)), by rw [szq]; simp only [Dc.size]; omega, qs, _, _, _, rfl, C.leaf (fun b o hb h => s2 _ _ (by rw [upd_ne hb]; exact h)) (s2 _ _ upd_same), by omega, rfl⟩
    | row b xs =>
      obtain ⟨a, rfl, ea, na⟩ := (show ∃ a, v = .ref a ∧ Hw a = some (.lst (xs.map Dc.val)) ∧ H a = none from on)
      have aL : a ≠ L := fun z => C.nLr (by rw [← z]; exact roots_mem.mpr ⟨(.ref a, .row b xs), by simp, rfl⟩)
      have ea1 : upd Hw L (.lst (qs.map (·.1))) a = some (.lst (xs.map Dc.val)) := by rw [upd_ne aL]; exact ea
      have nat' := nat
      simp only [Dc.At] at nat'
      simp only [Dc.slim] at nsl
      simp only [Dc.size] at szq
      have lx := Dc.lenL xs
      refine ⟨_, rfl, .row a xs, rfl, ?_, by simp only [Dc.slim]; exact nsl, by simp only [Dc.size]; omega, fun p l H2 s2 np hp st => ?_⟩
      · simp only [Dc.At]
        exact ⟨.inl ea1, Dc.atL_frame xs (fun c _ o e => s1 c o e) nat'.2⟩
      cases (show l = (List.range xs.length).map fun (i : Nat) => V.int (i : Int) from st)
      have s2' := s1.trans s2
      have ea2 := s2 _ _ ea1
      have eL2 : H2 L = some (.lst (qs.map (·.1))) := s2 _ _ upd_same
      have ll : ((List.range xs.length).map fun (i : Nat) => V.int (i : Int)).length = xs.length := by simp
      have pa : p ≠ a := Ne.symm (ne_of_none ea1 np)
      have pL : p ≠ L := Ne.symm (ne_of_none (upd_same (H := Hw) (a := L) (o := .lst (qs.map (·.1)))) np)
      refine ⟨_, rfl, p, rfl, ⟨_, SqL.of hp⟩, for_list (xs := (List.range xs.length).map fun (i : Nat) => V.int (i : Int)) (fun i σ Hi => Ex2_9 (fun (cs : List V) (o5 : Option V) => σ = [some d.val, some tv, some (.ref L), some (.ref a), some (.ref p), o5]) (fun (cs : List V) (o5 : Option V) => cs.length = i) (fun (cs : List V) (o5 : Option V) => i ≤ xs.length) (fun (cs : List V) (o5 : Option V) => Hi a = some (.lst (cs ++ (xs.drop i).map Dc.val))) (fun (cs : List V) (o5 : Option V) => Hi L = some (.lst (qs.map (·.1) ++ cs))) (fun (cs : List V) (o5 : Option V) => (∀ (j : Nat) c x, cs[j]? = some c → xs[j]? = some x → OutC H Hi c x)) (fun (cs : List V) (o5 : Option V) => (∀ b o, b ≠ a → b ≠ L → H2 b = some o → Hi b = some o)) (fun (cs : List V) (o5 : Option V) => (roots (cs.zip xs)).Nodup) (fun (cs : List V) (o5 : Option V) => ∀ c ∈ roots (cs.zip xs), H2 c = none))
        ⟨[], _, rfl, rfl, Nat.zero_le _, by rw [ea2]; rfl, by rw [eL2, List.append_nil], fun j c x h => by simp at h, fun b o _ _ h => h, by simp [roots], by simp [roots]⟩ (fun i σ Hi _ ⟨cs, o5, _, _, _, _, _, _, kp, _, _⟩ => SqL.of (kp p _ pa pL hp)) ?_ ?_⟩
      · rintro i sv σ Hi hsv ⟨cs, o5, rfl, lc, hix, eai, eLi, oc, kp, rn, rf⟩
        have hi : i < xs.length := by have := (List.getElem?_eq_some_iff.mp hsv).1; rw [ll] at this; exact this
        have esv : sv = .int (i : Int) := by rw [List.getElem?_map, List.getElem?_range hi] at hsv; exact (Option.some.inj hsv).symm
        subst esv
        obtain ⟨x, hx⟩ : ∃ x, xs[i]? = some x := ⟨_, List.getElem?_eq_getElem hi⟩
        have hmx := List.mem_of_getElem? hx
        have sHi : Same H Hi := fun b o e => kp b o (ne_of_none e na) (ne_of_none e nL) (s2' b o e)
        have dr : xs.drop i = x :: xs.drop (i + 1) := by rw [List.drop_eq_getElem_cons hi]; rw [List.getElem?_eq_getElem hi] at hx; rw [Option.some.inj hx]
        have xat : x.At Hi := Dc.at_same sHi (Dc.AtL_mem nat'.2 x hmx)
        have at1 : atI (cs ++ (xs.drop i).map Dc.val) (i : Int) = some x.val := atI_nat (by rw [dr, List.getElem?_append_right (by omega), lc, Nat.sub_self]; rfl)
        refine .inl (.inl ⟨_, rfl, _, rfl, a, _, _, _, rfl, rfl, SqL.of eai, at1, x, rfl, xat, OuterQ.of sHi xat fun c Hc sc occ fc => ?_⟩)
        have eac := sc _ _ eai
        have hlen : (cs ++ (xs.drop i).map Dc.val).length = xs.length := by rw [List.length_append, List.length_map, List.length_drop]; omega
        refine ⟨_, rfl, _, rfl, a, _, _, i, rfl, rfl, eac, by unfold ixN; rw [if_pos (by omega), if_pos (by rw [hlen]; omega), Int.toNat_natCast], ?_⟩
        have eset : (cs ++ (xs.drop i).map Dc.val).set i c = (cs ++ [c]) ++ (xs.drop (i + 1)).map Dc.val := by
          rw [dr, List.map_cons, List.set_append_right _ _ (by omega), lc, Nat.sub_self, List.set_cons_zero, List.append_assoc]
          rfl
        rw [eset]
        have cL : ∀ a', c = .ref a' → a' ≠ a ∧ a' ≠ L := fun a' e => ⟨(fun z => by have := fc a' e; rw [z, eai] at this; cases this), (fun z => by have := fc a' e; rw [z, eLi] at this; cases this)⟩
        have eL3 : upd Hc a (.lst ((cs ++ [c]) ++ (xs.drop (i + 1)).map Dc.val)) L = some (.lst (qs.map (·.1) ++ cs)) := by rw [upd_ne (Ne.symm aL)]; exact sc _ _ eLi
        refine ⟨_, rfl, .inl ⟨rfl, _, SqL.of eL3⟩, .inl ⟨_, rfl, _, rfl, a, _, _, c, rfl, rfl, SqL.of upd_same, atI_nat (by rw [List.getElem?_append_left (by rw [List.length_append, lc]; simp), List.getElem?_append_right (by omega), lc, Nat.sub_self]; rfl), ?_⟩⟩
        refine ⟨L, _, _, rfl, rfl, eL3, small1000 (by simp only [List.length_append, List.length_map]; omega), cs ++ [c], _, rfl, by simp [lc], hi, by rw [upd_ne aL]; exact upd_same, by rw [upd_same, List.append_assoc], fun j c' x' h1 h2 => ?_, fun b' o h1 h2 h3 => ?_, ?_, fun c' hc' => ?_⟩
        · have base : ∀ {c' : V} {x' : Dc}, OutC H Hc c' x' → (∀ a', c' = .ref a' → a' ≠ a ∧ a' ≠ L) → OutC H (upd (upd Hc a (.lst ((cs ++ [c]) ++ (xs.drop (i + 1)).map Dc.val))) L (.lst ((qs.map (·.1) ++ cs) ++ [c]))) c' x' := fun o hne' => o.up fun a' e u h => by
            obtain ⟨g1, g2⟩ := hne' a' e
            rw [upd_ne g2, upd_ne g1]
            exact h
          by_cases hji : j < cs.length
          · rw [List.getElem?_append_left hji] at h1
            refine base ((oc j c' x' h1 h2).up fun a' e u h => sc _ _ h) fun a' e => ?_
            have hz : (cs.zip xs)[j]? = some (c', x') := by rw [List.getElem?_zip_eq_some]; exact ⟨h1, h2⟩
            have hr := rf a' (roots_mem.mpr ⟨(c', x'), List.mem_of_getElem? hz, e⟩)
            exact ⟨(fun z => by rw [z, ea2] at hr; cases hr), (fun z => by rw [z, eL2] at hr; cases hr)⟩
          · have hl := (List.getElem?_eq_some_iff.mp h1).1
            rw [List.length_append, List.length_singleton] at hl
            have ej : j = i := by omega
            subst ej
            rw [List.getElem?_append_right (by omega), lc, Nat.sub_self] at h1
            have e1 : c = c' := by simpa using h1
            subst e1
            rw [hx] at h2
            cases h2
            exact base occ cL
        · rw [upd_ne h2, upd_ne h1]
          exact sc _ _ (kp b' o h1 h2 h3)
        · have ez : (cs ++ [c]).zip xs = cs.zip xs ++ [(c, x)] := zip_snoc lc hx
          rw [ez, roots_append]
          refine List.nodup_append.mpr ⟨rn, by cases c <;> first | exact List.nodup_nil | exact List.nodup_cons.mpr ⟨(fun h => nomatch h), List.nodup_nil⟩, fun y hy z hz e => ?_⟩
          subst e
          obtain ⟨p', hp', e'⟩ := roots_mem.mp hz
          rw [List.mem_singleton.mp hp'] at e'
          obtain ⟨⟨c2, x2⟩, hp2, e2⟩ := roots_mem.mp hy
          obtain ⟨j, hj, ej⟩ := List.mem_iff_getElem.mp hp2
          have hz2 : (cs.zip xs)[j]? = some (c2, x2) := by rw [List.getElem?_eq_getElem hj, ej]
          obtain ⟨g1, g2⟩ := List.getElem?_zip_eq_some.mp hz2
          exact ((oc j c2 x2 g1 g2).root (p := (c2, x2)) e2).1 (fc y e')
        · have ez : (cs ++ [c]).zip xs = cs.zip xs ++ [(c, x)] := zip_snoc lc hx
          rw [ez, roots_append] at hc'
          rcases List.mem_append.mp hc' with hc' | hc'
          · exact rf c' hc'
          · obtain ⟨p', hp', e'⟩ := roots_mem.mp hc'
            rw [List.mem_singleton.mp hp'] at e'
            have h0 := fc c' e'
            cases q2 : H2 c' with
            | none => rfl
            | some o =>
              have := kp c' o (cL c' e').1 (cL c' e').2 q2
              rw [h0] at this
              cases this
      · rintro σ Hi ⟨cs, o5, rfl, lc, hix, eai, eLi, oc, kp, rn, rf⟩
        rw [ll] at lc eai
        rw [List.drop_length, List.map_nil, List.append_nil] at eai
        have mz : (cs.zip xs).map (·.1) = cs := List.map_fst_zip (by omega)
        have mz2 : (cs.zip xs).map (·.2) = xs := List.map_snd_zip (by omega)
        have zat : ∀ p ∈ cs.zip xs, ∃ j : Nat, cs[j]? = some p.1 ∧ xs[j]? = some p.2 := fun p hp => by
          obtain ⟨j, hj, e⟩ := List.mem_iff_getElem.mp hp
          exact ⟨j, List.getElem?_zip_eq_some.mp (by rw [List.getElem?_eq_getElem hj, e])⟩
        have hw2 : ∀ b o, b ≠ L → Hw b = some o → H2 b = some o := fun b o hb h => s2 _ _ (by rw [upd_ne hb]; exact h)
        have C2 := C.step (H2 := Hi) (cs.zip xs) (fun b' o h1 h2 h3 => kp b' o h1 h2 (hw2 b' o h2 h3)) (by rw [eLi, List.map_append, mz]) (fun p hp => let ⟨j, g1, g2⟩ := zat p hp; oc j _ _ g1 g2)
          (fun p hp => let ⟨j, g1, g2⟩ := zat p hp; ⟨Dc.AtL_mem nat'.2 _ (List.mem_of_getElem? g2), Dc.slimL_mem nsl _ (List.mem_of_getElem? g2)⟩) rn
          (fun c hc => by
            cases q2 : Hw c with
            | none => rfl
            | some o =>
              have h0 := rf c hc
              by_cases hcL : c = L
              · rw [hcL, eL2] at h0; cases h0
              · rw [hw2 c o hcL q2] at h0; cases h0) (by rw [eai]; simp) (fun ob u z => by rw [eai] at z; cases z)
          (fun ec H' dn at' ha' => ⟨.row a ec, rfl, by simp only [Dc.like]; have := dn.likes; rw [mz2] at this; exact this, by
            simp only [Dc.At]
            refine ⟨.inl ?_, at'⟩
            rw [ha', eai, dn.vals, mz], by simp only [Dc.addrs]; exact .refl _⟩)
        have sz2 : Dc.sizeL ((qs ++ cs.zip xs).map (·.2)) = Dc.sizeL (qs.map (·.2)) + Dc.sizeL xs := by rw [List.map_append, Dc.sizeL_append, mz2]
        exact ⟨Dc.sizeL ((qs ++ cs.zip xs).map (·.2)), by omega, qs ++ cs.zip xs, _, _, _, rfl, C2, by omega, rfl⟩
    | tab b ks xs =>
      obtain ⟨a, rfl, ea, na⟩ := (show ∃ a, v = .ref a ∧ Hw a = some (.dK (Dc.kvs ks xs)) ∧ H a = none from on)
      have aL : a ≠ L := fun z => C.nLr (by rw [← z]; exact roots_mem.mpr ⟨(.ref a, .tab b ks xs), by simp, rfl⟩)
      have ea1 : upd Hw L (.lst (qs.map (·.1))) a = some (.dK (Dc.kvs ks xs)) := by rw [upd_ne aL]; exact ea
      have nat' := nat
      simp only [Dc.At] at nat'
      simp only [Dc.slim] at nsl
      simp only [Dc.size] at szq
      obtain ⟨_, kxl, knd, xat0⟩ := nat'
      have lx := Dc.lenL xs
      refine ⟨_, rfl, .tab a ks xs, rfl, ?_, by simp only [Dc.slim]; exact nsl, by simp only [Dc.size]; omega, fun p l H2 s2 np hp st => ?_⟩
      · simp only [Dc.At]
        exact ⟨.inl ea1, kxl, knd, Dc.atL_frame xs (fun c _ o e => s1 c o e) xat0⟩
      obtain ⟨ss, rfl, perm, _⟩ := (show ∃ ss : List Str, l = ss.map V.str ∧ ss.Perm ks ∧ PyProof.Rows.sortedS ss = true from st)
      have snd : ss.Nodup := perm.nodup_iff.mpr knd
      have sl := perm.length_eq
      obtain ⟨ys, yp, yl, yat⟩ := reorder (ks := ss) (ss := ks) (ec := xs) perm.symm knd kxl.symm
      have s2' := s1.trans s2
      have ea2 := s2 _ _ ea1
      have eL2 : H2 L = some (.lst (qs.map (·.1))) := s2 _ _ upd_same
      have ll : (ss.map V.str).length = ss.length := List.length_map ..
      have pa : p ≠ a := Ne.symm (ne_of_none ea1 np)
      have pL : p ≠ L := Ne.symm (ne_of_none (upd_same (H := Hw) (a := L) (o := .lst (qs.map (·.1)))) np)
      have pos : ∀ (j : Nat) k, ks[j]? = some k → ∃ t, ss[t]? = some k := fun j k h => List.mem_iff_getElem?.mp (perm.mem_iff.mpr (List.mem_of_getElem? h))
      have pos' : ∀ (t : Nat) k, ss[t]? = some k → ∃ j, ks[j]? = some k := fun t k h => List.mem_iff_getElem?.mp (perm.mem_iff.mp (List.mem_of_getElem? h))
      refine ⟨_, rfl, p, rfl, ⟨_, SqL.of hp⟩, for_list (xs := ss.map V.str) (fun i σ Hi => Ex3_11 (fun (cs vs : List V) (o5 : Option V) => σ = [some d.val, some tv, some (.ref L), some (.ref a), some (.ref p), o5]) (fun (cs vs : List V) (o5 : Option V) => cs.length = i) (fun (cs vs : List V) (o5 : Option V) => i ≤ ss.length) (fun (cs vs : List V) (o5 : Option V) => ks.length = vs.length) (fun (cs vs : List V) (o5 : Option V) => Hi a = some (.dK (kvsV ks vs))) (fun (cs vs : List V) (o5 : Option V) => Hi L = some (.lst (qs.map (·.1) ++ cs))) (fun (cs vs : List V) (o5 : Option V) => (∀ (j t : Nat) k, ks[j]? = some k → ss[t]? = some k → vs[j]? = if t < i then cs[t]? else (ys[t]?).map Dc.val)) (fun (cs vs : List V) (o5 : Option V) => (∀ (j : Nat) c x, cs[j]? = some c → ys[j]? = some x → OutC H Hi c x)) (fun (cs vs : List V) (o5 : Option V) => (∀ b o, b ≠ a → b ≠ L → H2 b = some o → Hi b = some o)) (fun (cs vs : List V) (o5 : Option V) => (roots (cs.zip ys)).Nodup) (fun (cs vs : List V) (o5 : Option V) => ∀ c ∈ roots (cs.zip ys), H2 c = none))
        ⟨[], xs.map Dc.val, _, rfl, rfl, Nat.zero_le _, by rw [List.length_map]; exact kxl, ea2, by rw [eL2, List.append_nil], fun j t k h1 h2 => by rw [if_neg (Nat.not_lt_zero _), yat t j k h2 h1, List.getElem?_map], fun j c x h => by simp at h, fun b o _ _ h => h, by simp [roots], by simp [roots]⟩
        (fun i σ Hi _ ⟨cs, vs, o5, _, _, _, _, _, _, _, _, kp, _, _⟩ => SqL.of (kp p _ pa pL hp)) ?_ ?_⟩
      · rintro i sv σ Hi hsv ⟨cs, vs, o5, rfl, lc, hix, lv, eai, eLi, vat, oc, kp, rn, rf⟩
        have hi : i < ss.length := by have := (List.getElem?_eq_some_iff.mp hsv).1; rw [ll] at this; exact this
        obtain ⟨k, hk⟩ : ∃ k, ss[i]? = some k := ⟨_, List.getElem?_eq_getElem hi⟩
        have esv : sv = .str k := by rw [List.getElem?_map, hk] at hsv; exact (Option.some.inj hsv).symm
        subst esv
        obtain ⟨j, hj⟩ := pos' i k hk
        obtain ⟨x, hx⟩ : ∃ x, ys[i]? = some x := ⟨_, List.getElem?_eq_getElem (by rw [yl]; exact hi)⟩
        have hmx : x ∈ xs := yp.mem_iff.mp (List.mem_of_getElem? hx)
        have sHi : Same H Hi := fun b o e => kp b o (ne_of_none e na) (ne_of_none e nL) (s2' b o e)
        have xat : x.At Hi := Dc.at_same sHi (Dc.AtL_mem xat0 x hmx)
        have hjv : j < vs.length := by rw [← lv]; exact (List.getElem?_eq_some_iff.mp hj).1
        have vj : vs[j]? = some x.val := by rw [vat j i k hj hk, if_neg (Nat.lt_irrefl _), hx]; rfl
        have dg : ∀ {Hx : Hp} {ws : List V} {y : V}, Hx a = some (.dK (kvsV ks ws)) → ks.length = ws.length → ws[j]? = some y → DGet Hx a (.str k) (some y) := fun h1 h2 h3 => .inl ⟨_, Sum.inr k, .inl h1, rfl, by rw [kvsV_get h2 knd hj, h3]⟩
        refine .inr (.inr ⟨_, rfl, _, rfl, a, x.val, rfl, dg eai lv vj, x, rfl, xat, OuterQ.of sHi xat fun c Hc sc occ fc => ?_⟩)
        have eac := sc _ _ eai
        refine ⟨_, rfl, _, rfl, a, _, rfl, DPut.k (k := Sum.inr k) eac (small1000 (by rw [kvsV_len lv]; omega)), ?_⟩
        rw [kvsV_put lv knd hj c]
        have lv2 : ks.length = (vs.set j c).length := by rw [List.length_set]; exact lv
        have cL : ∀ a', c = .ref a' → a' ≠ a ∧ a' ≠ L := fun a' e => ⟨(fun z => by have := fc a' e; rw [z, eai] at this; cases this), (fun z => by have := fc a' e; rw [z, eLi] at this; cases this)⟩
        have eL3 : upd Hc a (.dK (kvsV ks (vs.set j c))) L = some (.lst (qs.map (·.1) ++ cs)) := by rw [upd_ne (Ne.symm aL)]; exact sc _ _ eLi
        refine ⟨_, rfl, .inl ⟨rfl, _, SqL.of eL3⟩, .inr ⟨_, rfl, _, rfl, a, c, rfl, dg upd_same lv2 (by rw [List.getElem?_set_self hjv]), ?_⟩⟩
        refine ⟨L, _, _, rfl, rfl, eL3, small1000 (by simp only [List.length_append, List.length_map]; omega), cs ++ [c], vs.set j c, _, rfl, by simp [lc], hi, lv2, by rw [upd_ne aL]; exact upd_same, by rw [upd_same, List.append_assoc], fun j' t' k' h1 h2 => ?_, fun j' c' x' h1 h2 => ?_, fun b' o h1 h2 h3 => ?_, ?_, fun c' hc' => ?_⟩
        · by_cases hjj : j' = j
          · subst hjj
            rw [hj] at h1
            cases h1
            have et : t' = i := (List.getElem?_inj (by exact (List.getElem?_eq_some_iff.mp h2).1) snd).mp (by rw [h2, hk])
            subst et
            rw [List.getElem?_set_self hjv, if_pos (Nat.lt_succ_self _), List.getElem?_append_right (by omega), lc, Nat.sub_self]
            rfl
          · have kne : k' ≠ k := fun z => hjj ((List.getElem?_inj (by exact (List.getElem?_eq_some_iff.mp h1).1) knd).mp (by rw [h1, hj, z]))
            have tne : t' ≠ i := fun z => kne (by rw [z, hk] at h2; exact (Option.some.inj h2).symm)
            rw [List.getElem?_set_ne (Ne.symm hjj), vat j' t' k' h1 h2]
            by_cases hti : t' < i
            · rw [if_pos hti, if_pos (by omega), List.getElem?_append_left (by omega)]
            · rw [if_neg hti, if_neg (by omega)]
        · have base : ∀ {c' : V} {x' : Dc}, OutC H Hc c' x' → (∀ a', c' = .ref a' → a' ≠ a ∧ a' ≠ L) → OutC H (upd (upd Hc a (.dK (kvsV ks (vs.set j c)))) L (.lst ((qs.map (·.1) ++ cs) ++ [c]))) c' x' := fun o hne' => o.up fun a' e u h => by
            obtain ⟨g1, g2⟩ := hne' a' e
            rw [upd_ne g2, upd_ne g1]
            exact h
          by_cases hji : j' < cs.length
          · rw [List.getElem?_append_left hji] at h1
            refine base ((oc j' c' x' h1 h2).up fun a' e u h => sc _ _ h) fun a' e => ?_
            have hz : (cs.zip ys)[j']? = some (c', x') := by rw [List.getElem?_zip_eq_some]; exact ⟨h1, h2⟩
            have hr := rf a' (roots_mem.mpr ⟨(c', x'), List.mem_of_getElem? hz, e⟩)
            exact ⟨(fun z => by rw [z, ea2] at hr; cases hr), (fun z => by rw [z, eL2] at hr; cases hr)⟩
          · have hl := (List.getElem?_eq_some_iff.mp h1).1
            rw [List.length_append, List.length_singleton] at hl
            have ej : j' = i := by omega
            subst ej
            rw [List.getElem?_append_right (by omega), lc, Nat.sub_self] at h1
            have e1 : c = c' := by simpa using h1
            subst e1
            rw [hx] at h2
            cases h2
            exact base occ cL
        · rw [upd_ne h2, upd_ne h1]
          exact sc _ _ (kp b' o h1 h2 h3)
        · have ez : (cs ++ [c]).zip ys = cs.zip ys ++ [(c, x)] := zip_snoc lc hx
          rw [ez, roots_append]
          refine List.nodup_append.mpr ⟨rn, by cases c <;> first | exact List.nodup_nil | exact List.nodup_cons.mpr ⟨(fun h => nomatch h), List.nodup_nil⟩, fun y hy z hz e => ?_⟩
          subst e
          obtain ⟨p', hp', e'⟩ := roots_mem.mp hz
          rw [List.mem_singleton.mp hp'] at e'
          obtain ⟨⟨c2, x2⟩, hp2, e2⟩ := roots_mem.mp hy
          obtain ⟨j2, hj2, ej2⟩ := List.mem_iff_getElem.mp hp2
          have hz2 : (cs.zip ys)[j2]? = some (c2, x2) := by rw [List.getElem?_eq_getElem hj2, ej2]
          obtain ⟨g1, g2⟩ := List.getElem?_zip_eq_some.mp hz2
          exact ((oc j2 c2 x2 g1 g2).root (p := (c2, x2)) e2).1 (fc y e')
        · have ez : (cs ++ [c]).zip ys = cs.zip ys ++ [(c, x)] := zip_snoc lc hx
          rw [ez, roots_append] at hc'
          rcases List.mem_append.mp hc' with hc' | hc'
          · exact rf c' hc'
          · obtain ⟨p', hp', e'⟩ := roots_mem.mp hc'
            rw [List.mem_singleton.mp hp'] at e'
            have h0 := fc c' e'
            cases q2 : H2 c' with
            | none => rfl
            | some o =>
              have := kp c' o (cL c' e').1 (cL c' e').2 q2
              rw [h0] at this
              cases this
      · rintro σ Hi ⟨cs, vs, o5, rfl, lc, hix, lv, eai, eLi, vat, oc, kp, rn, rf⟩
        rw [ll] at lc vat
        have mz : (cs.zip ys).map (·.1) = cs := List.map_fst_zip (by omega)
        have mz2 : (cs.zip ys).map (·.2) = ys := List.map_snd_zip (by omega)
        have zat : ∀ p ∈ cs.zip ys, ∃ j : Nat, cs[j]? = some p.1 ∧ ys[j]? = some p.2 := fun p hp => by
          obtain ⟨j, hj, e⟩ := List.mem_iff_getElem.mp hp
          exact ⟨j, List.getElem?_zip_eq_some.mp (by rw [List.getElem?_eq_getElem hj, e])⟩
        have hw2 : ∀ b o, b ≠ L → Hw b = some o → H2 b = some o := fun b o hb h => s2 _ _ (by rw [upd_ne hb]; exact h)
        have C2 := C.step (H2 := Hi) (cs.zip ys) (fun b' o h1 h2 h3 => kp b' o h1 h2 (hw2 b' o h2 h3)) (by rw [eLi, List.map_append, mz]) (fun p hp => let ⟨j, g1, g2⟩ := zat p hp; oc j _ _ g1 g2)
          (fun p hp => let ⟨j, g1, g2⟩ := zat p hp; ⟨Dc.AtL_mem xat0 _ (yp.mem_iff.mp (List.mem_of_getElem? g2)), Dc.slimL_mem nsl.2 _ (yp.mem_iff.mp (List.mem_of_getElem? g2))⟩) rn
          (fun c hc => by
            cases q2 : Hw c with
            | none => rfl
            | some o =>
              have h0 := rf c hc
              by_cases hcL : c = L
              · rw [hcL, eL2] at h0; cases h0
              · rw [hw2 c o hcL q2] at h0; cases h0) (by rw [eai]; simp) (fun ob u z => by rw [eai] at z; cases z)
          (fun ec H' dn at' ha' => by
            have dv := dn.vals
            rw [mz] at dv
            have dk := dn.likes
            rw [mz2] at dk
            have el : ec.length = ss.length := by have := congrArg List.length dv; rw [List.length_map] at this; omega
            obtain ⟨es, ep, esl, eat⟩ := reorder perm snd el
            have ev : es.map Dc.val = vs := by
              refine List.ext_getElem? fun j => ?_
              cases hk : ks[j]? with
              | none =>
                have h1 := List.getElem?_eq_none_iff.mp hk
                rw [List.getElem?_eq_none_iff.mpr (by rw [List.length_map]; omega), List.getElem?_eq_none_iff.mpr (by omega)]
              | some k =>
                obtain ⟨t, ht⟩ := pos j k hk
                have tl := (List.getElem?_eq_some_iff.mp ht).1
                rw [List.getElem?_map, eat j t k hk ht, vat j t k hk ht, if_pos tl, ← dv, List.getElem?_map]
            refine ⟨.tab a ks es, rfl, ?_, ?_, ?_⟩
            · simp only [Dc.like]
              refine ⟨trivial, likeL_of (by omega) fun j x e h1 h2 => ?_⟩
              obtain ⟨k, hk⟩ : ∃ k, ks[j]? = some k := ⟨_, List.getElem?_eq_getElem (by rw [kxl]; exact (List.getElem?_eq_some_iff.mp h1).1)⟩
              obtain ⟨t, ht⟩ := pos j k hk
              have e1 := yat t j k ht hk
              rw [h1] at e1
              obtain ⟨e', g1, g2⟩ := Dc.likeL_get dk t x e1
              rw [eat j t k hk ht, g1] at h2
              cases h2
              exact g2
            · simp only [Dc.At]
              exact ⟨.inl (by rw [ha', eai, kvs_kvsV, ev]), esl.symm, knd, atL_perm ep at'⟩
            · simp only [Dc.addrs]
              exact (addrsL_perm ep).cons _)
        have sz2 : Dc.sizeL ((qs ++ cs.zip ys).map (·.2)) = Dc.sizeL (qs.map (·.2)) + Dc.sizeL xs := by rw [List.map_append, Dc.sizeL_append, mz2, Dc.sizeL_perm yp]
        exact ⟨Dc.sizeL ((qs ++ cs.zip ys).map (·.2)), by omega, qs ++ cs.zip ys, _, _, _, rfl, C2, by omega, rfl⟩
end
end K21

set_option Elab.async false
set_option linter.all false
set_option maxRecDepth 100000
set_option maxHeartbeats 40000000
namespace K21
open PySem L2
section
variable {P : Program} {w : World} {K : PySem.W.Frag} {mg : Str → Option Value} {base : Heap}
theorem scHolds : FnScope ["doc", "step"] ["doc", "step"] (defScope sHolds) := ⟨rfl, rfl, rfl, by decide +kernel, rfl, by decide +kernel, by decide +kernel⟩
theorem ok_Holds {f : Addr} {fd : FuncData} (F : Fun K "holds" "holds" sHolds f fd) (T : Txt mg) : FnOk P w K mg base CX0 1 f fd ["doc", "step"] spHolds := by
  refine F.ok scHolds (fun vs H Q E h => ?_) (fun cdv A outer s H vs Q E hr h => ?_)
  · obtain ⟨d, z, rfl, hat, hz, q⟩ := h
    rfl
  · obtain ⟨d, z, rfl, hat, hz, q⟩ := h
    have nd := scHolds.nd
    have hu := hu_of hr
    refine ⟨_, (pss_cons (ps_if (pt_val (pe_callB call_isiN rfl T.isinstance b_isinstance (pa_cons (pv 1) (pa_cons (pe_bltn (v := .ty "str") rfl T.str b_str rfl) pa_nil)))) (pss_one (ps_ret (pe_and (pe_callB call_isiN rfl T.isinstance b_isinstance (pa_cons (pv 0) (pa_cons (pe_bltn (v := .ty "dict") rfl T.dict b_dict rfl) pa_nil))) (pe_one (pe_cmp (pc_din hu (pv 1) (pv 0))))))) pss_nil)
      (pss_one (ps_ret (pe_and (pe_callB call_isiN rfl T.isinstance b_isinstance (pa_cons (pv 0) (pa_cons (pe_bltn (v := .ty "list") rfl T.list b_list rfl) pa_nil))) (pe_one (pe_chain op_le op_lt pe_int (pv 1) (pe_callB call_len_seq rfl T.len PySem.boot_len (pa_cons (pv 0) pa_nil)))))))), ?_⟩
    rcases hz with ⟨i, rfl⟩ | ⟨k, rfl, _⟩
    · refine ⟨_, rfl, _, "str", "int", rfl, rfl, .int _, _, rfl, iteF ?_⟩
      cases d with
      | leaf v => exact ⟨_, rfl, _, "list", Dc.tyS (.leaf v), rfl, rfl, Dc.tyN hat, _, rfl, iteBF (by cases v <;> rfl) (by simpa [Dc.sub] using q)⟩
      | tab a ks xs => exact ⟨_, rfl, _, "list", _, rfl, rfl, Dc.tyN hat, _, rfl, iteBF rfl (by simpa [Dc.sub] using q)⟩
      | row a xs =>
        refine ⟨_, rfl, _, "list", _, rfl, rfl, Dc.tyN hat, _, rfl, iteBT rfl ?_⟩
        simp only [Dc.At] at hat
        refine ⟨_, rfl, _, _, rfl, rfl, _, rfl, iteBT (decide_eq_true (by omega)) ⟨_, rfl, a, _, rfl, .inl (.inl hat.1), _, _, rfl, rfl, ?_⟩⟩
        have e : decide ((i : Int) < ((List.map Dc.val xs).length : Int)) = ((Dc.row a xs).sub [.int (i : Int)]).isSome := by
          simp only [Dc.sub]
          rw [if_pos (by omega), Int.toNat_natCast, List.length_map]
          by_cases h : i < xs.length
          · rw [List.getElem?_eq_getElem h]
            simp only [Option.bind_some, Dc.sub_nil, Option.isSome_some]
            exact decide_eq_true (by omega)
          · rw [List.getElem?_eq_none_iff.mpr (by omega)]
            simp only [Option.bind_none, Option.isSome_none]
            exact decide_eq_false (by omega)
        rw [← e] at q
        exact q
    · refine ⟨_, rfl, _, "str", "str", rfl, rfl, .str _, _, rfl, iteT ?_⟩
      cases d with
      | leaf v => exact ⟨_, rfl, _, "dict", Dc.tyS (.leaf v), rfl, rfl, Dc.tyN hat, _, rfl, iteBF (by cases v <;> rfl) (by simpa [Dc.sub] using q)⟩
      | row a xs => exact ⟨_, rfl, _, "dict", _, rfl, rfl, Dc.tyN hat, _, rfl, iteBF rfl (by simpa [Dc.sub] using q)⟩
      | tab a ks xs =>
        refine ⟨_, rfl, _, "dict", _, rfl, rfl, Dc.tyN hat, _, rfl, iteBT rfl ?_⟩
        simp only [Dc.At] at hat
        refine ⟨_, rfl, _, rfl, a, _, rfl, .inl ⟨_, Sum.inr k, hat.1, rfl, rfl⟩, ?_⟩
        have e : (valV (Dc.kvs ks xs) (Sum.inr k)).isSome = ((Dc.tab a ks xs).sub [.str k]).isSome := by
          rw [Dc.valV_kvs hat.2.1]
          simp only [Dc.sub]
          cases (ks.zip xs).lookup k with
          | none => rfl
          | some x => simp [Dc.sub_nil]
        rw [← e] at q
        exact q
end
end K21

set_option Elab.async false
set_option linter.all false
set_option maxRecDepth 100000
set_option maxHeartbeats 40000000
namespace K21
open PySem L2
section
variable {P : Program} {w : World} {K : PySem.W.Frag} {mg : Str → Option Value} {base : Heap}
theorem scFoundAt : FnScope ["doc", "path", "part", "step"] ["doc", "path"] (defScope sFoundAt) := ⟨rfl, rfl, rfl, by decide +kernel, rfl, by decide +kernel, by decide +kernel⟩
theorem ok_FoundAt {C : Addr} {f : Addr} {fd : FuncData} (F : Fun K "found_at" "found_at" sFoundAt f fd) (T : Txt mg) (DHolds : Df P w K mg base "holds" ["doc", "step"] 1 spHolds) (mXNoPart : mg "NoPart" = some (.ref C)) (qXNoPart : excInB K C bmV "ValueError.__new__" = true) : FnOk P w K mg base (CX1 P w) 2 f fd ["doc", "path"] (spFound1 C) := by
  obtain ⟨fHolds, dHolds, kHolds, bHolds, mHolds, GHolds⟩ := DHolds.ex
  refine F.ok1 scFoundAt (fun vs H Q E h => ?_) (fun cdv A outer s H vs Q E hr h => ?_)
  · obtain ⟨d, t, xs, rfl, hat, ht, hx, q, qe⟩ := h
    rfl
  · obtain ⟨d, t, xs, rfl, hat, ht, hx, q, qe⟩ := h
    have nd := scFoundAt.nd
    have hu := hu_of hr
    have hrHolds : Room 1 _ := hr.mono (by first | decide | omega)
    refine ⟨_, (pss_cons (ps_set (i := 2) nd rfl (Or.inl rfl) (pv 0))
      (pss_cons (ps_for own1 rfl (pi_tup (pv 1)) (pg_name (i := 3) nd rfl (Or.inl rfl)) (pss_cons (ps_if (pt_not (pt_val (pe_call GHolds hrHolds rfl mHolds kHolds bHolds .nil pass0 (pa_cons (pv 2) (pa_cons (pv 3) pa_nil))))) (pss_one (ps_raise PySem.F.excBase_ValueError rfl rfl mXNoPart qXNoPart raises1 (pa_cons pe_str pa_nil))) pss_nil)
      (pss_one (ps_set (i := 2) nd rfl (Or.inl rfl) (pe_alt (pe_ix (r := rIxL K) ix_list (pv 2) (pv 3) (fun _ _ => rfl)) (pe_dget hu (pv 2) (pv 3) (fun _ _ => rfl)))))))
      (pss_one (ps_ret (pv 2))))), ?_⟩
    refine ⟨_, rfl, ?_⟩
    refine ⟨_, rfl, t, rfl, ⟨_, SqT.of ht⟩, for_tup (xs := xs) (fun i σ Hi => ∃ (p : Dc) (o3 : Option V), σ = [some d.val, some (.ref t), some p.val, o3] ∧ Hi = H ∧ p.At H ∧ p.sub (xs.drop i) = d.sub xs) ⟨d, none, rfl, rfl, hat, rfl⟩ (fun i σ Hi _ ⟨_, _, _, e, _⟩ => by rw [e]; exact SqT.of ht) ?_ ?_⟩
    · rintro i z σ Hi hz ⟨p, o3, rfl, rfl, pat, ps⟩
      have hi := (List.getElem?_eq_some_iff.mp hz).1
      have dr : xs.drop i = z :: xs.drop (i + 1) := by rw [List.drop_eq_getElem_cons hi, (List.getElem?_eq_some_iff.mp hz).2]
      rw [dr] at ps
      have hz' := hx z (List.mem_of_getElem? hz)
      refine ⟨_, rfl, _, rfl, p, _, rfl, pat, hz', _, rfl, ?_⟩
      cases e1 : p.sub [z] with
      | none =>
        refine iteBT rfl ⟨by decide, qe ?_ _ (Same.refl _)⟩
        rw [← ps]
        exact Dc.sub_cons_none e1
      | some y =>
        refine iteBF rfl ?_
        rcases Dc.sub_one e1 with ⟨a, ys, j, rfl, rfl, hy⟩ | ⟨a, ks, ys, k, rfl, rfl, hy⟩
        · have pat' := pat
          simp only [Dc.At] at pat'
          rw [Dc.sub_row hy] at ps
          exact .inl ⟨_, rfl, _, rfl, a, _, _, _, rfl, rfl, .inl pat'.1, atI_nat (by rw [List.getElem?_map, hy]; rfl), y, _, rfl, rfl, Dc.AtL_mem pat'.2 y (List.mem_of_getElem? hy), ps⟩
        · have pat' := pat
          simp only [Dc.At] at pat'
          have hv : valV (Dc.kvs ks ys) (Sum.inr k) = some y.val := by rw [Dc.valV_kvs pat'.2.1, hy]; rfl
          rw [Dc.sub_tab hy] at ps
          exact .inr ⟨_, rfl, _, rfl, a, y.val, rfl, (by rw [← hv]; exact .inl ⟨_, Sum.inr k, pat'.1, rfl, rfl⟩), y, _, rfl, rfl, Dc.AtL_mem pat'.2.2.2 y (Dc.mem_zip_lookup hy).2, ps⟩
    · rintro σ Hi ⟨p, o3, rfl, rfl, pat, ps⟩
      rw [List.drop_length, Dc.sub_nil] at ps
      exact ⟨_, rfl, q p ps.symm⟩
end
end K21

set_option Elab.async false
set_option linter.all false
set_option maxRecDepth 100000
set_option maxHeartbeats 40000000
namespace K21
open PySem L2
section
variable {P : Program} {w : World} {K : PySem.W.Frag} {mg : Str → Option Value} {base : Heap}
theorem scHolderOf : FnScope ["doc", "path"] ["doc", "path"] (defScope sHolderOf) := ⟨rfl, rfl, rfl, by decide +kernel, rfl, by decide +kernel, by decide +kernel⟩
theorem ok_HolderOf {C : Addr} {f : Addr} {fd : FuncData} (F : Fun K "holder_of" "holder_of" sHolderOf f fd) (T : Txt mg) (DFoundAt : Df1 P w K mg base "found_at" ["doc", "path"] 2 (spFound1 C)) (mXNoPart : mg "NoPart" = some (.ref C)) (qXNoPart : excInB K C bmV "ValueError.__new__" = true) : FnOk P w K mg base (CX1 P w) 3 f fd ["doc", "path"] (spHolder1 C) := by
  obtain ⟨fFoundAt, dFoundAt, kFoundAt, bFoundAt, mFoundAt, GFoundAt⟩ := DFoundAt.ex
  refine F.ok1 scHolderOf (fun vs H Q E h => ?_) (fun cdv A outer s H vs Q E hr h => ?_)
  · obtain ⟨d, t, xs, rfl, hat, ht, hx, q, qe⟩ := h
    rfl
  · obtain ⟨d, t, xs, rfl, hat, ht, hx, q, qe⟩ := h
    have nd := scHolderOf.nd
    have hu := hu_of hr
    have hrFoundAt : Room 2 _ := hr.mono (by first | decide | omega)
    refine ⟨_, (pss_cons (ps_if (pt_cmpR (op_eqT (Room.units0 hr)) (pv 1) (pe_tup pa_nil) (nomark _)) (pss_one (ps_raise PySem.F.excBase_ValueError rfl rfl mXNoPart qXNoPart raises1 (pa_cons pe_str pa_nil))) pss_nil)
      (pss_one (ps_ret (pe_call GFoundAt hrFoundAt rfl mFoundAt kFoundAt bFoundAt .nil pass1 (pa_cons (pv 0) (pa_cons (pe_slice sl_tupE (pv 1) po_none (po_some (pe_un un_neg pe_int))) pa_nil)))))), ?_⟩
    have fx : ∀ z ∈ xs, flatV z = true := fun z hz => (hx z hz).flat
    refine ⟨_, rfl, Nat.zero_le _, fun e0 he => ?_⟩
    have se := Same.new (o := .tup []) he
    refine ⟨t, e0, xs, [], rfl, rfl, SqT.of (se _ _ ht), SqT.of upd_same, fx, fun z hz => (nomatch hz), _, rfl, ?_⟩
    by_cases hxs : xs = []
    · exact iteBT (by rw [eqTs_nil]; simp [hxs]) ⟨by decide, qe (.inl hxs) _ se⟩
    obtain ⟨us, lv, rfl⟩ : ∃ us lv, xs = us ++ [lv] := ⟨xs.dropLast, xs.getLast hxs, (List.dropLast_concat_getLast hxs).symm⟩
    refine iteBF (by rw [eqTs_nil]; simp) ?_
    refine ⟨_, rfl, _, rfl, _, rfl, _, rfl, t, _, rfl, se _ _ ht, fun p H2 s2 hp => ?_⟩
    rw [cutV_init] at hp
    exact ⟨d, p, us, rfl, Dc.at_same (se.trans s2) hat, hp, fun z hz => hx z (List.mem_append_left _ hz), fun e he => q us lv e rfl he H2 (se.trans s2), fun hn H' s' => qe (.inr ⟨us, lv, rfl, hn⟩) H' ((se.trans s2).trans s')⟩
end
end K21

set_option Elab.async false
set_option linter.all false
set_option maxRecDepth 100000
set_option maxHeartbeats 40000000
namespace K21
open PySem L2
section
variable {P : Program} {w : World} {K : PySem.W.Frag} {mg : Str → Option Value} {base : Heap}
theorem scHasRoom : FnScope ["holder", "step"] ["holder", "step"] (defScope sHasRoom) := ⟨rfl, rfl, rfl, by decide +kernel, rfl, by decide +kernel, by decide +kernel⟩
theorem ok_HasRoom {f : Addr} {fd : FuncData} (F : Fun K "has_room" "has_room" sHasRoom f fd) (T : Txt mg) : FnOk P w K mg base CX0 1 f fd ["holder", "step"] spRoom := by
  refine F.ok scHasRoom (fun vs H Q E h => ?_) (fun cdv A outer s H vs Q E hr h => ?_)
  · obtain ⟨d, z, rfl, hat, hz, q⟩ := h
    rfl
  · obtain ⟨d, z, rfl, hat, hz, q⟩ := h
    have nd := scHasRoom.nd
    have hu := hu_of hr
    refine ⟨_, (pss_cons (ps_if (pt_val (pe_callB call_isiN rfl T.isinstance b_isinstance (pa_cons (pv 1) (pa_cons (pe_bltn (v := .ty "str") rfl T.str b_str rfl) pa_nil)))) (pss_one (ps_ret (pe_and (pe_callB call_isiN rfl T.isinstance b_isinstance (pa_cons (pv 0) (pa_cons (pe_bltn (v := .ty "dict") rfl T.dict b_dict rfl) pa_nil))) (pe_one (pe_cmp (pc_dnotin hu (pv 1) (pv 0))))))) pss_nil)
      (pss_one (ps_ret (pe_and (pe_callB call_isiN rfl T.isinstance b_isinstance (pa_cons (pv 0) (pa_cons (pe_bltn (v := .ty "list") rfl T.list b_list rfl) pa_nil))) (pe_one (pe_chain op_le op_le pe_int (pv 1) (pe_callB call_len_seq rfl T.len PySem.boot_len (pa_cons (pv 0) pa_nil)))))))), ?_⟩
    rcases hz with ⟨i, rfl⟩ | ⟨k, rfl, _⟩
    · refine ⟨_, rfl, _, "str", "int", rfl, rfl, .int _, _, rfl, iteF ?_⟩
      cases d with
      | leaf v => exact ⟨_, rfl, _, "list", Dc.tyS (.leaf v), rfl, rfl, Dc.tyN hat, _, rfl, iteBF (by cases v <;> rfl) q⟩
      | tab a ks xs => exact ⟨_, rfl, _, "list", _, rfl, rfl, Dc.tyN hat, _, rfl, iteBF rfl q⟩
      | row a xs =>
        refine ⟨_, rfl, _, "list", _, rfl, rfl, Dc.tyN hat, _, rfl, iteBT rfl ?_⟩
        simp only [Dc.At] at hat
        have h0 : decide ((0 : Int) ≤ (i : Int)) = true := decide_eq_true (by omega)
        refine ⟨_, rfl, _, _, rfl, rfl, _, rfl, iteBT h0 ⟨_, rfl, a, _, rfl, .inl (.inl hat.1), _, _, rfl, rfl, ?_⟩⟩
        have e : decide ((i : Int) ≤ ((List.map Dc.val xs).length : Int)) = (Dc.row a xs).room (.int (i : Int)) := by
          simp only [Dc.room]
          rw [h0, List.length_map, Bool.true_and]
        rw [← e] at q
        exact q
    · refine ⟨_, rfl, _, "str", "str", rfl, rfl, .str _, _, rfl, iteT ?_⟩
      cases d with
      | leaf v => exact ⟨_, rfl, _, "dict", Dc.tyS (.leaf v), rfl, rfl, Dc.tyN hat, _, rfl, iteBF (by cases v <;> rfl) q⟩
      | row a xs => exact ⟨_, rfl, _, "dict", _, rfl, rfl, Dc.tyN hat, _, rfl, iteBF rfl q⟩
      | tab a ks xs =>
        refine ⟨_, rfl, _, "dict", _, rfl, rfl, Dc.tyN hat, _, rfl, iteBT rfl ?_⟩
        simp only [Dc.At] at hat
        refine ⟨_, rfl, _, rfl, a, _, rfl, .inl ⟨_, Sum.inr k, hat.1, rfl, rfl⟩, ?_⟩
        have e : (!(valV (Dc.kvs ks xs) (Sum.inr k)).isSome) = (Dc.tab a ks xs).room (.str k) := by
          rw [Dc.valV_kvs hat.2.1]
          simp only [Dc.room]
          congr 1
          by_cases hk : k ∈ ks
          · obtain ⟨x, hx, _⟩ := Dc.lookup_of_mem hat.2.1 hk
            rw [hx]
            simp [hk]
          · cases q2 : (ks.zip xs).lookup k with
            | none => simp [hk]
            | some x => exact absurd (Dc.mem_zip_lookup q2).1 hk
        rw [← e] at q
        exact q
end
end K21

set_option Elab.async false
set_option linter.all false
set_option maxRecDepth 100000
set_option maxHeartbeats 40000000
namespace K21
open PySem L2
section
variable {P : Program} {w : World} {K : PySem.W.Frag} {mg : Str → Option Value} {base : Heap}
theorem scPutAt : FnScope ["doc", "path", "value", "told", "holder", "step"] ["doc", "path", "value"] (defScope sPutAt) := ⟨rfl, rfl, rfl, by decide +kernel, rfl, by decide +kernel, by decide +kernel⟩
theorem ok_PutAt {C : Addr} {f : Addr} {fd : FuncData} (F : Fun K "put_at" "put_at" sPutAt f fd) (T : Txt mg) (DCopyOf : Df P w K mg base "copy_of" ["doc"] 2 spCopyOf) (DHolderOf : Df1 P w K mg base "holder_of" ["doc", "path"] 3 (spHolder1 C)) (DHasRoom : Df P w K mg base "has_room" ["holder", "step"] 1 spRoom) (mXNoPart : mg "NoPart" = some (.ref C)) (qXNoPart : excInB K C bmV "ValueError.__new__" = true) : FnOk P w K mg base (CX1 P w) 5 f fd ["doc", "path", "value"] (spPut1 C) := by
  obtain ⟨fCopyOf, dCopyOf, kCopyOf, bCopyOf, mCopyOf, GCopyOf⟩ := DCopyOf.ex
  obtain ⟨fHolderOf, dHolderOf, kHolderOf, bHolderOf, mHolderOf, GHolderOf⟩ := DHolderOf.ex
  obtain ⟨fHasRoom, dHasRoom, kHasRoom, bHasRoom, mHasRoom, GHasRoom⟩ := DHasRoom.ex
  refine F.ok1 scPutAt (fun vs H Q E h => ?_) (fun cdv A outer s H vs Q E hr h => ?_)
  · obtain ⟨d, v, t, xs, rfl, hat, hsl, hsz, hvt, hvl, hvz, ht, hx, q, qx⟩ := h
    rfl
  · obtain ⟨d, v, t, xs, rfl, hat, hsl, hsz, hvt, hvl, hvz, ht, hx, q, qx⟩ := h
    have nd := scPutAt.nd
    have hu := hu_of hr
    have hrCopyOf : Room 2 _ := hr.mono (by first | decide | omega)
    have hrHolderOf : Room 3 _ := hr.mono (by first | decide | omega)
    have hrHasRoom : Room 1 _ := hr.mono (by first | decide | omega)
    refine ⟨_, (pss_cons (ps_set (i := 3) nd rfl (Or.inl rfl) (pe_call GCopyOf hrCopyOf rfl mCopyOf kCopyOf bCopyOf .nil pass0 (pa_cons (pv 0) pa_nil)))
      (pss_cons (ps_set (i := 4) nd rfl (Or.inl rfl) (pe_call GHolderOf hrHolderOf rfl mHolderOf kHolderOf bHolderOf .nil pass1 (pa_cons (pv 3) (pa_cons (pv 1) pa_nil))))
      (pss_cons (ps_set (i := 5) nd rfl (Or.inl rfl) (pe_ix (r := rIxT K) ix_tup (pv 1) (pe_un un_neg pe_int) (fun _ _ => rfl)))
      (pss_cons (ps_if (pt_not (pt_val (pe_call GHasRoom hrHasRoom rfl mHasRoom kHasRoom bHasRoom .nil pass0 (pa_cons (pv 4) (pa_cons (pv 5) pa_nil))))) (pss_one (ps_raise PySem.F.excBase_ValueError rfl rfl mXNoPart qXNoPart raises1 (pa_cons pe_str pa_nil))) pss_nil)
      (pss_cons (ps_if (pt_val (pe_callB call_isiN rfl T.isinstance b_isinstance (pa_cons (pv 5) (pa_cons (pe_bltn (v := .ty "str") rfl T.str b_str rfl) pa_nil)))) (pss_one (ps_dput hu (pv 4) (pv 5) (pe_call GCopyOf hrCopyOf rfl mCopyOf kCopyOf bCopyOf .nil pass0 (pa_cons (pv 2) pa_nil)) rfl)) (pss_one (ps_expr (pe_bm PySem.F.plainAttrs_list PySem.F.slot_list_insert PySem.F.type_list_insert mt_insert (pv 4) (pa_cons (pv 5) (pa_cons (pe_call GCopyOf hrCopyOf rfl mCopyOf kCopyOf bCopyOf .nil pass0 (pa_cons (pv 2) pa_nil)) pa_nil))))))
      (pss_one (ps_ret (pv 3)))))))), ?_⟩
    refine ⟨_, rfl, d, rfl, hat, hsl, by omega, fun t0 H1 F0 lk => ?_⟩
    have wd := Dc.at_wf d hat
    have wt := Dc.at_wf t0 F0.at_
    have qd := Dc.like_eqv d t0 lk
    have ht1 := F0.same _ _ ht
    refine ⟨_, rfl, _, rfl, t0, t, xs, rfl, F0.at_, ht1, hx, fun us lv e' exs hs' H2 s2 => ?_, fun hno H2 s2 => qx ?_ H2 (F0.same.trans s2)⟩
    rotate_left
    · intro us lv e exs hs
      rcases hno with h | ⟨us', lv', exs', hn⟩
      · rw [h] at exs
        simp at exs
      · obtain ⟨rfl, rfl⟩ := snoc_inj (exs.symm.trans exs')
        rw [Dc.none_eqv wd wt qd hn] at hs
        cases hs
    subst exs
    obtain ⟨e, hs, qe⟩ := Dc.Eqv.sub wt wd qd.symm hs'
    have qe := qe.symm
    have we := Dc.at_wf e ((Dc.PartOf.sub hs).at_ hat)
    have we' := Dc.at_wf e' ((Dc.PartOf.sub hs').at_ F0.at_)
    have F2 := F0.up s2
    refine ⟨_, rfl, _, rfl, t, _, _, _, rfl, rfl, SqT.of (s2 _ _ ht1), atI_last us lv, ?_⟩
    have P' := Dc.PartOf.sub hs'
    refine ⟨_, rfl, _, rfl, e', lv, rfl, P'.at_ F2.at_, hx lv (by simp), _, rfl, ?_⟩
    cases hr' : e'.room lv with
    | false =>
      refine iteBT rfl ⟨by decide, qx ?_ H2 F2.same⟩
      intro us2 lv2 e2 exs hs2
      obtain ⟨rfl, rfl⟩ := snoc_inj exs
      rw [hs] at hs2
      cases hs2
      rw [qe.room]
      exact hr'
    | true =>
      have hr0 : e.room lv = true := by rw [qe.room]; exact hr'
      have q := q us lv e rfl hs hr0
      refine iteBF rfl ?_
      have vat2 := Dc.at_same F2.same hvt
      have fin : ∀ (v' : Dc) (H3 H4 : Hp) (b : Addr), Fresh H2 H3 v' → Dc.like v v' → e'.val = .ref b → b ∈ e'.addrs → (e'.insN lv v').At H4 → (∀ a o, a ≠ b → H3 a = some o → H4 a = some o) → (∀ o u, H4 b ≠ some (.frz o u)) → Q t0.val H4 := fun v' H3 H4 b Fv lv' ev bm nat kp ob => by
        have F3 := F2.up Fv.same
        have pm := Dc.insN_addrs (v := v') hr'
        have dj : ∀ c ∈ v'.addrs, c ∉ t0.addrs ∧ H c = none := fun c hc => ⟨fun z => Dc.there F2.at_ z (Fv.new c hc), F2.same.free (Fv.new c hc)⟩
        have nde : e'.addrs.Nodup := by
          obtain ⟨l, r, e1, _⟩ := Dc.setP_addrs (n := e') wt F0.nd hs'
          have := F0.nd
          rw [e1] at this
          exact (List.nodup_append.mp (List.nodup_append.mp this).1).2.1
        have FF := F3.edit (n := e'.insN lv v') hs' ev bm ((Dc.insN_val ..).trans ev) nat kp (pm.nodup_iff.mpr (List.nodup_append.mpr ⟨nde, Fv.nd, fun x hx' y hy z => (dj y hy).1 (by rw [← z]; exact P'.addrs x hx')⟩))
          (fun c hc => by
            by_cases hcb : c = b
            · rw [hcb]; exact ob
            · rcases List.mem_append.mp (pm.mem_iff.mp hc) with h | h
              · exact frz_up (Dc.there F3.at_ (P'.addrs c h)) (F3.own c (P'.addrs c h)) fun o => kp c o hcb
              · exact frz_up (Dc.there Fv.at_ h) (Fv.own c h) fun o => kp c o hcb)
          (fun c hc => by
            rcases List.mem_append.mp (pm.mem_iff.mp hc) with h | h
            · exact .inl h
            · exact .inr (dj c h))
        have vv : (t0.setP us (e'.insN lv v')).val = t0.val := Dc.setP_val hs' (Dc.insN_val ..)
        have := q (t0.setP us (e'.insN lv v')) H4 FF (Dc.Eqv.setP wd wt qd hs (Dc.Eqv.insN we we' hr0 qe (Dc.like_eqv v v' lv')))
        rw [vv] at this
        exact this
      rcases Dc.room_cases hr' with ⟨b, xs, i, rfl, rfl, hi⟩ | ⟨b, ks, xs, k, rfl, rfl, hk⟩
      · refine ⟨_, rfl, _, "str", "int", rfl, rfl, .int _, _, rfl, iteF ?_⟩
        have eat := P'.at_ F2.at_
        simp only [Dc.At] at eat
        have eb := eat.1.exact (F2.own b (P'.addrs b (by simp [Dc.addrs])))
        have lx := Dc.lenL xs
        have sz0 := P'.size
        simp only [Dc.size] at sz0
        have sz1 := Dc.like_size d t0 lk
        refine ⟨_, rfl, .inl ⟨rfl, _, SqL.of eb⟩, _, rfl, _, rfl, v, rfl, vat2, hvl, hvz, fun v' H3 Fv lv' => ?_⟩
        refine ⟨b, _, i, _, rfl, rfl, Fv.same _ _ eb, by rw [List.length_map]; exact hi, small1000 (by rw [List.length_map]; omega), ?_⟩
        refine ⟨_, rfl, fin v' H3 _ b Fv lv' rfl (by simp [Dc.addrs]) ?_ (fun a o ha h => by rw [upd_ne ha]; exact h) (fun o u z => by rw [upd_same] at z; cases z)⟩
        simp only [Dc.insN, Int.toNat_natCast, Dc.At]
        have nb : b ∉ Dc.addrsL xs := by
          obtain ⟨l, r, e1, _⟩ := Dc.setP_addrs (n := Dc.row b xs) wt F0.nd hs'
          have := F0.nd
          rw [e1] at this
          have := (List.nodup_append.mp (List.nodup_append.mp this).1).2.1
          simp only [Dc.addrs] at this
          exact (List.nodup_cons.mp this).1
        have xat : Dc.AtL (upd H3 b (.lst ((xs.map Dc.val).take i ++ v'.val :: (xs.map Dc.val).drop i))) xs := Dc.atL_frame xs (fun c hc o h => by rw [upd_ne (fun z => nb (by rw [← z]; exact hc))]; exact Fv.same _ _ h) eat.2
        have vat : v'.At (upd H3 b (.lst ((xs.map Dc.val).take i ++ v'.val :: (xs.map Dc.val).drop i))) := Dc.at_frame v' (fun c hc o h => by rw [upd_ne (fun z => Dc.there F2.at_ (P'.addrs b (by simp [Dc.addrs])) (by rw [← z]; exact Fv.new c hc))]; exact h) Fv.at_
        refine ⟨.inl ?_, (Dc.AtL_append _ _).mpr ?_⟩
        · rw [upd_same, List.map_append, List.map_cons, List.map_take, List.map_drop]
        · have h2 := (Dc.AtL_append (xs.take i) (xs.drop i)).mp (by rw [List.take_append_drop]; exact xat)
          refine ⟨h2.1, ?_⟩
          simp only [Dc.AtL]
          exact ⟨vat, h2.2⟩
      · refine ⟨_, rfl, _, "str", "str", rfl, rfl, .str _, _, rfl, iteT ?_⟩
        have eat := P'.at_ F2.at_
        simp only [Dc.At] at eat
        have eb := eat.1.exact (F2.own b (P'.addrs b (by simp [Dc.addrs])))
        have lx := Dc.lenL xs
        have sz0 := P'.size
        simp only [Dc.size] at sz0
        have sz1 := Dc.like_size d t0 lk
        refine ⟨_, rfl, v, rfl, vat2, hvl, hvz, fun v' H3 Fv lv' => ?_⟩
        refine ⟨_, rfl, _, rfl, b, _, rfl, DPut.k (k := Sum.inr k) (Fv.same _ _ eb) (small1000 (by rw [Dc.kvs_len eat.2.1]; omega)), ?_⟩
        have nv : valV (Dc.kvs ks xs) (Sum.inr k) = none := by
          rw [Dc.valV_kvs eat.2.1]
          cases q2 : (ks.zip xs).lookup k with
          | none => rfl
          | some x => exact absurd (Dc.mem_zip_lookup q2).1 hk
        rw [putK_new _ nv]
        refine ⟨_, rfl, fin v' H3 _ b Fv lv' rfl (by simp [Dc.addrs]) ?_ (fun a o ha h => by rw [upd_ne ha]; exact h) (fun o u z => by rw [upd_same] at z; cases z)⟩
        simp only [Dc.insN, Dc.At]
        have nb : b ∉ Dc.addrsL xs := by
          obtain ⟨l, r, e1, _⟩ := Dc.setP_addrs (n := Dc.tab b ks xs) wt F0.nd hs'
          have := F0.nd
          rw [e1] at this
          have := (List.nodup_append.mp (List.nodup_append.mp this).1).2.1
          simp only [Dc.addrs] at this
          exact (List.nodup_cons.mp this).1
        have xat : Dc.AtL (upd H3 b (.dK (Dc.kvs ks xs ++ [(Sum.inr k, v'.val)]))) xs := Dc.atL_frame xs (fun c hc o h => by rw [upd_ne (fun z => nb (by rw [← z]; exact hc))]; exact Fv.same _ _ h) eat.2.2.2
        have vat : v'.At (upd H3 b (.dK (Dc.kvs ks xs ++ [(Sum.inr k, v'.val)]))) := Dc.at_frame v' (fun c hc o h => by rw [upd_ne (fun z => Dc.there F2.at_ (P'.addrs b (by simp [Dc.addrs])) (by rw [← z]; exact Fv.new c hc))]; exact h) Fv.at_
        refine ⟨.inl ?_, by simp [eat.2.1], nd_snoc eat.2.2.1 hk, (Dc.AtL_append _ _).mpr ⟨xat, by simp only [Dc.AtL]; exact ⟨vat, trivial⟩⟩⟩
        rw [upd_same, Dc.kvs_snoc k v' eat.2.1]
end
end K21

set_option Elab.async false
set_option linter.all false
set_option maxRecDepth 100000
set_option maxHeartbeats 40000000
namespace K21
open PySem L2
section
variable {P : Program} {w : World} {K : PySem.W.Frag} {mg : Str → Option Value} {base : Heap}
theorem scCell : FnScope ["_law_script", "_law_k"] ["_law_script", "_law_k"] (defScope sCell) := ⟨rfl, rfl, rfl, by decide +kernel, rfl, by decide +kernel, by decide +kernel⟩
theorem ok_Cell {f : Addr} {fd : FuncData} (F : Fun K "_law_cell" "_law_cell" sCell f fd) (T : Txt mg) : FnOk P w K mg base CX0 1 f fd ["_law_script", "_law_k"] (spCell K) := by
  refine F.ok scCell (fun vs H Q E h => ?_) (fun cdv A outer s H vs Q E hr h => ?_)
  · obtain ⟨a, ns, k, rfl, hS, q⟩ := h
    rfl
  · obtain ⟨a, ns, k, rfl, hS, q⟩ := h
    have nd := scCell.nd
    have hu := hu_of hr
    refine ⟨_, (pss_cons (ps_if (pt_cmpR op_lt (pv 1) (pe_callB call_len_seq rfl T.len PySem.boot_len (pa_cons (pv 0) pa_nil)) (nomark _)) (pss_one (ps_ret (pe_op op_mod (pe_ix (r := rIxL K) ix_list (pv 0) (pv 1) (fun _ _ => rfl)) (pe_op op_mul pe_int (pe_op op_pow pe_int pe_int))))) pss_nil)
      (pss_one (ps_ret (pe_op op_add pe_int (pe_op op_mul pe_int (pv 1)))))), ?_⟩
    refine ⟨_, rfl, _, rfl, a, _, rfl, .inl hS, _, _, rfl, rfl, _, rfl, ?_⟩
    refine ite2 (fun h1 => ?_) (fun h1 => ?_)
    · have hk : k < ns.length := by
        have := of_decide_eq_true h1
        rw [List.length_map] at this
        omega
      have hx : (ns.map V.int)[k]? = some (.int ns[k]) := by rw [List.getElem?_map, List.getElem?_eq_getElem hk]; rfl
      exact ⟨_, rfl, _, rfl, a, _, _, _, rfl, rfl, hS, atI_nat hx, _, _, rfl, rfl, ⟨by decide, by decide, by decide⟩, _, _, rfl, rfl, .inl ⟨by decide, by decide⟩, _, _, rfl, rfl, (by show (0 : Int) < _; decide), q _ (Int.emod_nonneg _ (by decide))⟩
    · exact ⟨_, rfl, _, _, rfl, rfl, .inl ⟨by decide, by decide⟩, _, _, rfl, rfl, q _ (by omega)⟩
end
end K21

set_option Elab.async false
set_option linter.all false
set_option maxRecDepth 100000
set_option maxHeartbeats 40000000
namespace K21
open PySem L2
section
variable {P : Program} {w : World} {K : PySem.W.Frag} {mg : Str → Option Value} {base : Heap}
theorem scMix : FnScope ["_law_cell_here", "_law_k", "_law_number", "_law_j"] ["_law_cell_here", "_law_k"] (defScope sMix) := ⟨rfl, rfl, rfl, by decide +kernel, rfl, by decide +kernel, by decide +kernel⟩
theorem ok_Mix {f : Addr} {fd : FuncData} (F : Fun K "_law_mix" "_law_mix" sMix f fd) (T : Txt mg) : FnOk P w K mg base CX0 1 f fd ["_law_cell_here", "_law_k"] spMixF := by
  refine F.ok scMix (fun vs H Q E h => ?_) (fun cdv A outer s H vs Q E hr h => ?_)
  · obtain ⟨c, k, rfl, hk, q⟩ := h
    rfl
  · obtain ⟨c, k, rfl, hk, q⟩ := h
    have nd := scMix.nd
    have hu := hu_of hr
    refine ⟨_, (pss_cons (ps_if (PW.pt (pw_and (pt_cmpR op_eq (pe_op op_mod (pv 0) pe_int) pe_int (nomark _)) (pw_and1 (pt_cmpR op_ge (pv 0) (pe_op op_mul pe_int (pe_op op_pow pe_int pe_int)) (nomark _))))) (pss_cons (ps_set (i := 2) nd rfl (Or.inl rfl) (pe_op op_fdiv (pv 0) pe_int))
      (pss_cons (ps_for PassesOwn.never rfl (pi_range1 rfl T.range (pa_cons (pv 1) pa_nil)) (pg_name (i := 3) nd rfl (Or.inl rfl)) (pss_one (ps_set (i := 2) nd rfl (Or.inl rfl) (pe_op op_fdiv (pv 2) pe_int))))
      (pss_one (ps_ret (pe_op op_mod (pv 2) pe_int))))) pss_nil)
      (pss_cons (ps_set (i := 2) nd rfl (Or.inl rfl) (pe_op op_mod (pe_op op_mul (pe_op op_add (pv 0) pe_int) pe_int) pe_int))
      (pss_cons (ps_set (i := 2) nd rfl (Or.inl rfl) (pe_op op_mod (pe_op op_add (pv 2) (pe_op op_mul (pe_op op_add (pv 1) pe_int) pe_int)) pe_int))
      (pss_cons (ps_set (i := 2) nd rfl (Or.inl rfl) (pe_op op_mod (pe_op op_mul (pv 2) (pv 2)) pe_int))
      (pss_cons (ps_set (i := 2) nd rfl (Or.inl rfl) (pe_op op_mod (pe_op op_mul (pe_op op_add (pv 2) pe_int) (pe_op op_add (pe_op op_fdiv (pv 2) pe_int) pe_int)) pe_int))
      (pss_one (ps_ret (pe_op op_fdiv (pv 2) pe_int)))))))), ?_⟩
    have lo : ∀ x : Int, -(2 ^ 64) < x % 2305843009213693951 ∧ x % 2305843009213693951 < 2 ^ 64 := fun x => by
      have h1 := Int.emod_nonneg x (show (2305843009213693951 : Int) ≠ 0 by decide)
      have h2 := Int.emod_lt_of_pos x (show (0 : Int) < 2305843009213693951 by decide)
      constructor <;> omega
    have lo1 : ∀ x : Int, -(2 ^ 64) < x % 999999999999999989 + 1 ∧ x % 999999999999999989 + 1 < 2 ^ 64 := fun x => by
      have h1 := Int.emod_nonneg x (show (999999999999999989 : Int) ≠ 0 by decide)
      have h2 := Int.emod_lt_of_pos x (show (0 : Int) < 999999999999999989 by decide)
      constructor <;> omega
    have q2 : ¬ (c % 4 = 0 ∧ 4 * 10 ^ 60 ≤ c) → Q (.int ((mixN c k + 1) * (mixN c k / 1000003 + 7) % 2305843009213693951 / 7919)) H := fun h => by
      have e : mixF c k = _ := if_neg h
      rw [e] at q
      exact q
    refine ⟨_, rfl, _, _, rfl, rfl, (by show (0 : Int) < _; decide), rfl, _, rfl, ?_⟩
    refine ite2 (fun h1 => ?_) (fun h1 => ?_)
    · refine ⟨_, rfl, _, _, rfl, rfl, ⟨by decide, by decide, by decide⟩, _, _, rfl, rfl, .inl ⟨by decide, by decide⟩, _, _, rfl, rfl, _, rfl, ?_⟩
      have c4 : c % 4 = 0 := V.int.inj (of_decide_eq_true h1)
      refine ite2 (fun h2 => ?_) (fun h2 => ?_)
      · have c60 : 4 * 10 ^ 60 ≤ c := of_decide_eq_true h2
        have e : mixF c k = _ := if_pos ⟨c4, c60⟩
        rw [e] at q
        refine ⟨_, rfl, _, _, rfl, rfl, ⟨by decide, by decide⟩, ?_⟩
        refine ⟨_, rfl, _, rfl, by omega, by omega, for_range (lo := 0) (fun i σ H2 => ∃ (oj : Option V), σ = [some (.int c), some (.int (k : Int)), some (.int (divs i (c / 4))), oj] ∧ H2 = H) ⟨none, rfl, rfl⟩ ?_ ?_⟩
        · rintro i σ H2 hi ⟨oj, rfl, rfl⟩
          exact ⟨_, rfl, _, _, rfl, rfl, ⟨by decide, by decide⟩, _, rfl, rfl⟩
        · rintro σ H2 ⟨oj, rfl, rfl⟩
          rw [Int.toNat_natCast]
          exact ⟨_, rfl, _, _, rfl, rfl, (by show (0 : Int) < _; decide), q⟩
      · have hno : ¬ (c % 4 = 0 ∧ 4 * 10 ^ 60 ≤ c) := fun z => h2 (decide_eq_true z.2)
        refine ⟨_, rfl, _, _, rfl, rfl, _, _, rfl, rfl, .inr ⟨by decide, by decide⟩, _, _, rfl, rfl, (by show (0 : Int) < _; decide), ?_⟩
        refine ⟨_, rfl, _, rfl, _, _, rfl, rfl, _, _, rfl, rfl, .inr ⟨by decide, by decide⟩, _, _, rfl, rfl, _, _, rfl, rfl, (by show (0 : Int) < _; decide), ?_⟩
        refine ⟨_, rfl, _, rfl, _, _, rfl, rfl, .inl (lo _), _, _, rfl, rfl, (by show (0 : Int) < _; decide), ?_⟩
        refine ⟨_, rfl, _, _, rfl, rfl, _, rfl, _, _, rfl, rfl, ⟨by decide, by decide⟩, _, _, rfl, rfl, _, _, rfl, rfl, .inl (lo1 _), _, _, rfl, rfl, (by show (0 : Int) < _; decide), ?_⟩
        exact ⟨_, rfl, _, _, rfl, rfl, ⟨by decide, by decide⟩, q2 hno⟩
    · refine iteF ?_
      have hno : ¬ (c % 4 = 0 ∧ 4 * 10 ^ 60 ≤ c) := fun z => h1 (decide_eq_true (congrArg V.int z.1))
      refine ⟨_, rfl, _, _, rfl, rfl, _, _, rfl, rfl, .inr ⟨by decide, by decide⟩, _, _, rfl, rfl, (by show (0 : Int) < _; decide), ?_⟩
      refine ⟨_, rfl, _, rfl, _, _, rfl, rfl, _, _, rfl, rfl, .inr ⟨by decide, by decide⟩, _, _, rfl, rfl, _, _, rfl, rfl, (by show (0 : Int) < _; decide), ?_⟩
      refine ⟨_, rfl, _, rfl, _, _, rfl, rfl, .inl (lo _), _, _, rfl, rfl, (by show (0 : Int) < _; decide), ?_⟩
      refine ⟨_, rfl, _, _, rfl, rfl, _, rfl, _, _, rfl, rfl, ⟨by decide, by decide⟩, _, _, rfl, rfl, _, _, rfl, rfl, .inl (lo1 _), _, _, rfl, rfl, (by show (0 : Int) < _; decide), ?_⟩
      exact ⟨_, rfl, _, _, rfl, rfl, ⟨by decide, by decide⟩, q2 hno⟩
theorem okW_Mix {f : Addr} {fd : FuncData} (F : Fun K "_law_mix" "_law_mix" sMix f fd) (T : Txt mg) : FnOk P w K mg base CX0 1 f fd ["_law_cell_here", "_law_k"] spMix := (ok_Mix F T).imp fun _ _ _ _ h => spMix_of h
end
end K21

set_option Elab.async false
set_option linter.all false
set_option maxRecDepth 100000
set_option maxHeartbeats 40000000
namespace K21
open PySem L2
section
variable {P : Program} {w : World} {K : PySem.W.Frag} {mg : Str → Option Value} {base : Heap}
theorem scNames : FnScope ["_law_cell_here", "_law_letters", "_law_pairs", "_law_word", "_law_size", "_law_at_here", "_law_more_here", "_law_names_here", "_law_k", "_law_one"] ["_law_cell_here"] (defScope sNames) := ⟨rfl, rfl, rfl, by decide +kernel, rfl, by decide +kernel, by decide +kernel⟩
theorem ok_Names {f : Addr} {fd : FuncData} (F : Fun K "_law_names" "_law_names" sNames f fd) (T : Txt mg) (DMix : Df P w K mg base "_law_mix" ["_law_cell_here", "_law_k"] 1 spMix) : FnOk P w K mg base CX0 2 f fd ["_law_cell_here"] spNames1 := by
  obtain ⟨fMix, dMix, kMix, bMix, mMix, GMix⟩ := DMix.ex
  refine F.ok scNames (fun vs H Q E h => ?_) (fun cdv A outer s H vs Q E hr h => ?_)
  · obtain ⟨c, rfl, q⟩ := h
    rfl
  · obtain ⟨c, rfl, q⟩ := h
    have nd := scNames.nd
    have hu := hu_of hr
    have hrMix : Room 1 _ := hr.mono (by first | decide | omega)
    refine ⟨_, (pss_cons (ps_set (i := 1) nd rfl (Or.inr rfl) pe_str)
      (pss_cons (ps_setComp (i := 2)  (fv := ["_law_cell_here"]) (fs := [0]) rfl (.of (by rfl)) nd rfl (Or.inl rfl) (pi_range1 rfl T.range (pa_cons pe_int pa_nil)) (fun _ _ _ _ => pts_nil) (fun C s0 H0 fp => (pe_op op_mod (pe_call GMix hrMix rfl mMix kMix bMix .nil pass0 (pa_cons (pv 1) (pa_cons (pv 0) pa_nil))) pe_int)))
      (pss_cons (ps_set (i := 3) nd rfl (Or.inr rfl) (pe_bm PySem.F.plainAttrs_str PySem.F.slot_str_join PySem.F.type_str_join mt_join pe_str (pa_cons (pe_comp (fv := ["_law_letters"]) (fs := [1]) rfl (.of (by rfl)) (pi_list (pv 2)) (fun _ _ _ _ => pts_nil) (fun C s0 H0 fp => (pe_op op_add_str (pe_ix ix_str (pv 1) (pe_op op_mod (pv 0) pe_int) (fun _ _ => rfl)) (pe_ix ix_str (pv 1) (pe_op op_fdiv (pv 0) pe_int) (fun _ _ => rfl))))) pa_nil)))
      (pss_cons (ps_set (i := 4) nd rfl (Or.inl rfl) (pe_op op_add pe_int (pe_op op_mod (pe_call GMix hrMix rfl mMix kMix bMix .nil pass0 (pa_cons (pv 0) (pa_cons pe_int pa_nil))) pe_int)))
      (pss_cons (ps_set (i := 5) nd rfl (Or.inl rfl) (pe_op op_mod (pe_call GMix hrMix rfl mMix kMix bMix .nil pass0 (pa_cons (pv 0) (pa_cons pe_int pa_nil))) (pv 4)))
      (pss_cons (ps_set (i := 6) nd rfl (Or.inr rfl) (pe_call GMix hrMix rfl mMix kMix bMix .nil pass0 (pa_cons (pv 0) (pa_cons pe_int pa_nil))))
      (pss_cons (ps_if (pt_cmpR op_eq (pe_op op_mod (pe_call GMix hrMix rfl mMix kMix bMix .nil pass0 (pa_cons (pv 0) (pa_cons pe_int pa_nil))) pe_int) pe_int (nomark _)) (pss_one (ps_ret (pe_comp (fv := ["_law_word", "_law_more_here"]) (fs := [3, 6]) rfl (.of (by rfl)) (pi_range1 rfl T.range (pa_cons pe_int pa_nil)) (fun _ _ _ _ => pts_nil) (fun C s0 H0 fp => (pe_slice sl_str (pv 1) po_none (po_some (pe_op op_add (pe_op op_add (pv 0) pe_int) (pe_op op_mod (pv 2) pe_int)))))))) pss_nil)
      (pss_cons (ps_set (i := 7) nd rfl (Or.inl rfl) (pe_lst pa_nil))
      (pss_cons (ps_for PassesOwn.never rfl (pi_range1 rfl T.range (pa_cons pe_int pa_nil)) (pg_name (i := 8) nd rfl (Or.inl rfl)) (pss_cons (ps_set (i := 9) nd rfl (Or.inl rfl) (pe_ix ix_str (pv 1) (pe_op op_mod (pe_op op_add (pv 6) (pe_op op_mul pe_int (pv 8))) pe_int) (fun _ _ => rfl)))
      (pss_one (ps_expr (pe_bm PySem.F.plainAttrs_list PySem.F.slot_list_append PySem.F.type_list_append mt_append (pv 7) (pa_cons (pe_op op_add_str (pe_op op_add_str (pe_slice sl_str (pv 3) po_none (po_some (pv 5))) (pv 9)) (pe_slice sl_str (pv 3) (po_some (pe_op op_add (pv 5) pe_int)) (po_some (pv 4)))) pa_nil))))))
      (pss_one (ps_ret (pv 7)))))))))))), ?_⟩
    refine ⟨4, rfl, by decide, by decide, comp_rel (n := 4) (fun i => .int (0 + (i : Int))) (fun _ v => ∃ n : Int, v = .int n ∧ 0 ≤ n ∧ n < 676) (by decide) (fun i H2 hi s2 => hi) (fun i H2 v H' hi s2 y => ⟨y.2, y.1⟩) (fun H2 s2 => Nat.le_refl _) (fun i H2 R hi s2 r => ?_) (fun D1 H1 ps hD1 s1 d1 lp op => ?_)⟩
    · refine ⟨_, rfl, _, rfl, c, i, by simp, by omega, fun r1 _ _ => ⟨_, _, rfl, rfl, (by show (0 : Int) < _; decide), r _ H2 (Same.refl H2) ⟨_, rfl, ?_⟩⟩⟩
      exact mod_b r1 (by decide)
    obtain ⟨PP, hPP⟩ : ∃ PP, PP = V.ref D1 := ⟨_, rfl⟩
    refine ⟨rfl, _, rfl, D1, rfl, ⟨_, SqL.of d1⟩, comp_rel (n := 4) (fun i => ps.getD i .non) (fun _ v => LetS 2 v) (by decide) (fun i H2 hi s2 => ⟨_, _, SqL.of (s2 _ _ d1), List.getElem?_eq_getElem (by omega)⟩) (fun i H2 v H' hi s2 y => ?_) (fun H2 s2 => ⟨_, SqL.of (s2 _ _ d1), by omega⟩) (fun i H2 R hi s2 r => ?_) (fun D H2 ys hD s2 d2 ly oy => ?_)⟩
    · obtain ⟨e, y⟩ := y
      refine ⟨?_, e⟩
      rw [List.getD_eq_getElem?_getD, y _ (SqL.of (s2 _ _ d1))]
      rfl
    · obtain ⟨n, en, n0, n1⟩ := op i (ps.getD i .non) (by rw [List.getD_eq_getElem?_getD, List.getElem?_eq_getElem (show i < ps.length by omega)]; rfl)
      rw [en]
      obtain ⟨ch, hat, hl⟩ := at_let (n % 26) (mod26 n).1 (mod26 n).2
      obtain ⟨ch2, hat2, hl2⟩ := at_let (n / 26) (by omega) (by omega)
      refine ⟨_, rfl, _, rfl, _, _, rfl, rfl, (by show (0 : Int) < _; decide), abc, _, ch, rfl, rfl, by rw [abc_len]; decide, hat, _, rfl, _, rfl, _, _, rfl, rfl, ⟨by decide, by decide⟩, abc, _, ch2, rfl, rfl, by rw [abc_len]; decide, hat2, _, _, rfl, rfl, le_line (show 1 + 1 ≤ 1000 by decide), r _ H2 (Same.refl H2) ⟨_, rfl, rfl, ?_⟩⟩
      rw [sgn_append]
      show ([ch] ++ [ch2]).all isL = true
      simp [hl, hl2]
    obtain ⟨zs, e1, h1, h2, h3⟩ := letS_list ys fun y hy => by
      obtain ⟨j, hj, e⟩ := List.mem_iff_getElem.mp hy
      exact oy j y (by rw [List.getElem?_eq_getElem hj, e])
    subst e1
    rw [ly] at h1 h2
    have lz : zs.length = 4 := by rw [← ly, List.length_map]
    refine ⟨_, D, zs, rfl, rfl, SqL.of d2, by rw [h1, lz]; decide, ?_⟩
    obtain ⟨W, hW⟩ : ∃ W, W = Txt.join "" zs := ⟨_, rfl⟩
    have w8 : (sgn W).length = 8 := by rw [hW, sgn_join, h2]
    have wL : (sgn W).all isL = true := by rw [hW, sgn_join]; exact h3
    have wz : W.length = 8 := by rw [← sgn_length]; exact w8
    rw [← hW, ← hPP]
    refine ⟨_, rfl, c, 4, rfl, by decide, fun r1 _ _ => ⟨_, _, rfl, rfl, (by show (0 : Int) < _; decide), _, _, rfl, rfl, ?_⟩⟩
    have b1 : 0 ≤ r1 % 8 ∧ r1 % 8 < 8 := ⟨Int.emod_nonneg _ (by decide), Int.emod_lt_of_pos _ (by decide)⟩
    obtain ⟨sz1, hs1⟩ : ∃ z : Nat, 1 + r1 % 8 = (z : Int) := ⟨(1 + r1 % 8).toNat, by omega⟩
    have bs : 1 ≤ sz1 ∧ sz1 ≤ 8 := by omega
    refine ⟨_, rfl, c, 5, rfl, by decide, fun r2 _ _ => ⟨_, rfl, _, _, rfl, rfl, (by show (0 : Int) < 1 + r1 % 8; omega), ?_⟩⟩
    have b2 : 0 ≤ r2 % (1 + r1 % 8) ∧ r2 % (1 + r1 % 8) < 1 + r1 % 8 := ⟨Int.emod_nonneg _ (by omega), Int.emod_lt_of_pos _ (by omega)⟩
    obtain ⟨at1, ha1⟩ : ∃ z : Nat, r2 % (1 + r1 % 8) = (z : Int) := ⟨(r2 % (1 + r1 % 8)).toNat, by omega⟩
    have b2' : at1 < sz1 := by omega
    refine ⟨_, rfl, c, 6, rfl, by decide, fun sh sh0 _ => ?_⟩
    refine ⟨_, rfl, c, 7, rfl, by decide, fun r4 _ _ => ⟨_, _, rfl, rfl, (by show (0 : Int) < _; decide), rfl, _, rfl, ?_⟩⟩
    have m3 := mod_b sh (n := 3) (by decide)
    have s2' := s1.trans s2
    refine ite2 (fun _ => ?_) (fun _ => ?_)
    · refine ⟨6, rfl, by decide, by decide, comp_rel (n := 6) (fun i => .int (0 + (i : Int))) (fun i v => ∃ y : Str, v = .str y ∧ nameB y = true ∧ ((sgn y).length : Int) = (i : Int) + 1 + sh % 3) (by decide) (fun i H2 hi s2 => hi) (fun i H2 v H' hi s2 y => ⟨y.2, y.1⟩) (fun H2 s2 => Nat.le_refl _) (fun i H3 R hi s3 r => ?_) (fun D3 H3 vs hD3 s3 d3 lv ov => ?_)⟩
      · refine ⟨_, rfl, _, rfl, _, _, rfl, rfl, _, rfl, _, _, rfl, rfl, (by show (0 : Int) < _; decide), _, _, rfl, rfl, _, rfl, W, rfl, by rw [wz]; decide, r _ H3 (Same.refl H3) ⟨_, rfl, ?_, ?_⟩⟩
        · obtain ⟨n, hn⟩ : ∃ n : Nat, 0 + (i : Int) + 1 + sh % 3 = (n : Int) := ⟨(0 + (i : Int) + 1 + sh % 3).toNat, by omega⟩
          show nameS (sgn (Txt.slice W none (some (0 + (i : Int) + 1 + sh % 3)))) = true
          rw [hn, sgn_slice, cut_to]
          refine nameS_mk ?_ ?_ (all_take wL n)
          · rw [List.length_take, w8]; omega
          · rw [List.length_take, w8]; omega
        · obtain ⟨n, hn⟩ : ∃ n : Nat, 0 + (i : Int) + 1 + sh % 3 = (n : Int) := ⟨(0 + (i : Int) + 1 + sh % 3).toNat, by omega⟩
          rw [hn, sgn_slice, cut_to, List.length_take, w8]
          omega
      · have gen : ∀ (vs : List V), (∀ (j : Nat) v, vs[j]? = some v → ∃ y : Str, v = .str y) → ∃ ys : List Str, vs = ys.map V.str := by
          intro vs
          induction vs with
          | nil => exact fun _ => ⟨[], rfl⟩
          | cons v r ih =>
            intro h
            obtain ⟨y, rfl⟩ := h 0 v rfl
            obtain ⟨ys, rfl⟩ := ih fun j v hj => h (j + 1) v (by simpa using hj)
            exact ⟨y :: ys, rfl⟩
        obtain ⟨ns, rfl⟩ := gen vs fun j v hj => let ⟨y, e, _⟩ := ov j v hj; ⟨y, e⟩
        have nat : ∀ (j : Nat) y, ns[j]? = some y → nameB y = true ∧ ((sgn y).length : Int) = (j : Int) + 1 + sh % 3 := fun j y hj => by
          obtain ⟨y', e, h1, h2⟩ := ov j (.str y) (by rw [List.getElem?_map, hj]; rfl)
          cases e
          exact ⟨h1, h2⟩
        refine q D3 ns H3 (s2'.trans s3) (s2'.free hD3) d3 (by rw [← lv, List.length_map]) (nodup_by (fun j y => ((sgn y).length : Int) = (j : Int) + 1 + sh % 3) (fun j y hj => (nat j y hj).2) fun i j y hij _ p1 p2 => by omega) fun y hy => ?_
        obtain ⟨j, hj, rfl⟩ := List.mem_iff_getElem.mp hy
        exact (nat j _ (List.getElem?_eq_getElem hj)).1
    obtain ⟨szI, eszI⟩ : ∃ z : Int, z = 1 + r1 % 8 := ⟨_, rfl⟩
    obtain ⟨atI1, eatI⟩ : ∃ z : Int, z = r2 % (1 + r1 % 8) := ⟨_, rfl⟩
    obtain ⟨NmP, hNm⟩ : ∃ NmP : Nat → Str → Prop, NmP = fun (j : Nat) (y : Str) => (sgn y)[at1]? = LET[((sh + 5 * (j : Int)) % 26).toNat]? := ⟨_, rfl⟩
    refine ⟨Nat.zero_le _, fun p hp => ?_⟩
    have pf : H p = none := s2'.free hp
    refine ⟨6, rfl, by decide, by decide, for_range (lo := 0) (n := 6) (fun i σ H3 => ∃ (ys : List Str) (ok os : Option V), σ = [some (.int c), some (.str abc), some PP, some (.str W), some (.int szI), some (.int atI1), some (.int sh), some (.ref p), ok, os] ∧
      Same H H3 ∧ H3 p = some (.lst (ys.map V.str)) ∧ ys.length = i ∧ (∀ (j : Nat) y, ys[j]? = some y → NmP j y) ∧ ∀ y ∈ ys, nameB y = true) ⟨[], none, none, by rw [eszI, eatI]; rfl, s2'.put pf, upd_same, rfl, fun j y hy => (by simp at hy), fun y hy => nomatch hy⟩ ?_ ?_⟩
    · rintro i σ H3 hi ⟨ys, ok, os, rfl, s3, d3, ly3, pm, ny⟩
      have more : ∀ (y : Str) (oo os' : Option V), NmP i y ∧ nameB y = true → ∃ (ys' : List Str) (ok os : Option V), [some (V.int c), some (V.str abc), some PP, some (V.str W), some (V.int szI), some (V.int atI1), some (V.int sh), some (V.ref p), oo, os'] =
          [some (V.int c), some (V.str abc), some PP, some (V.str W), some (V.int szI), some (V.int atI1), some (V.int sh), some (V.ref p), ok, os] ∧
          Same H (upd H3 p (.lst (ys.map V.str ++ [.str y]))) ∧ upd H3 p (.lst (ys.map V.str ++ [.str y])) p = some (.lst (ys'.map V.str)) ∧ ys'.length = i + 1 ∧ (∀ (j : Nat) y, ys'[j]? = some y → NmP j y) ∧ ∀ z ∈ ys', nameB z = true := fun y oo os' hy =>
        ⟨ys ++ [y], oo, os', rfl, s3.put pf, by rw [upd_same, List.map_append]; rfl, by simp [ly3], fun j z hj => by
          by_cases hji : j < ys.length
          · rw [List.getElem?_append_left hji] at hj
            exact pm j z hj
          · have hl := (List.getElem?_eq_some_iff.mp hj).1
            rw [List.length_append, List.length_singleton] at hl
            have e : j = i := by omega
            subst e
            rw [List.getElem?_append_right (by omega), ly3, Nat.sub_self] at hj
            have e : y = z := by simpa using hj
            rw [← e]
            exact hy.1, fun z hz => (List.mem_append.mp hz).elim (ny z) fun hz => by rw [List.mem_singleton.mp hz]; exact hy.2⟩
      have lz3 : (ys.map V.str).length < sizeLine := small1000 (by rw [List.length_map]; omega)
      obtain ⟨ch, hat, hl⟩ := at_let ((sh + 5 * (0 + (i : Int))) % 26) (mod26 _).1 (mod26 _).2
      refine ⟨_, rfl, _, rfl, _, rfl, _, _, rfl, rfl, .inl ⟨by decide, by decide⟩, _, _, rfl, rfl, _, _, rfl, rfl, (by show (0 : Int) < _; decide), abc, _, ch, rfl, rfl, by decide, hat, ?_⟩
      have l1 : (Txt.slice W none (some atI1)).length ≤ 8 := by rw [← wz]; exact Txt.slice_le W _ _
      have l2 : (Txt.slice W (some (atI1 + 1)) (some szI)).length ≤ 8 := by rw [← wz]; exact Txt.slice_le W _ _
      have l3 : (Txt.slice W none (some atI1) ++ (⟨#[ch]⟩ : Str)).length ≤ 9 := by rw [Str.length_append]; show _ + 1 ≤ 9; omega
      refine ⟨_, rfl, .inl ⟨rfl, _, SqL.of d3⟩, _, rfl, _, rfl, _, rfl, W, rfl, by rw [wz]; decide, _, rfl, _, _, rfl, rfl, ?_, _, rfl, _, rfl, _, _, rfl, rfl, _, rfl, _, rfl, _, rfl, W, rfl, by rw [wz]; decide, _, _, rfl, rfl, ?_, p, _, _, rfl, rfl, d3, lz3, more _ _ _ ⟨?_, ?_⟩⟩
      · exact Nat.le_of_lt (small1000 (by show (Txt.slice W none (some atI1)).length + 1 ≤ 1000; omega))
      · exact Nat.le_of_lt (small1000 (by omega))
      · rw [hNm]
        show (sgn (Txt.slice W none (some atI1) ++ (⟨#[ch]⟩ : Str) ++ Txt.slice W (some (atI1 + 1)) (some szI)))[at1]? = LET[((sh + 5 * (i : Int)) % 26).toNat]?
        have e0 : atI1 = (at1 : Int) := by omega
        rw [sgn_append, sgn_append, sgn_slice, e0, cut_to]
        have ec : sgn ⟨#[ch]⟩ = [ch] := rfl
        rw [ec]
        have lt : ((sgn W).take at1).length = at1 := by rw [List.length_take, w8]; omega
        rw [List.getElem?_append_left (by rw [List.length_append, lt, List.length_singleton]; omega), List.getElem?_append_right (by rw [lt]; exact Nat.le_refl _), lt, Nat.sub_self]
        have hb := mod26 (sh + 5 * (0 + (i : Int)))
        obtain ⟨m, hm⟩ : ∃ m : Nat, (sh + 5 * (0 + (i : Int))) % 26 = (m : Int) := ⟨((sh + 5 * (0 + (i : Int))) % 26).toNat, by omega⟩
        have hz : (sh + 5 * (i : Int)) % 26 = (m : Int) := by rw [← hm, Int.zero_add]
        rw [hz, Int.toNat_natCast]
        rw [hm] at hat
        obtain ⟨j', g1, g2, g3, _⟩ := atI_get hat
        have : j' = m := by
          have hm26 : m < (sgn abc).length := by show m < LET.length; rw [LET_len]; omega
          have := atI_nat (xs := sgn abc) (j := m) (List.getElem?_eq_getElem hm26)
          obtain ⟨j2, k1, _⟩ := atI_get this
          have q1 : ixN (sgn abc).length (m : Int) = some m := by
            unfold ixN
            rw [if_pos (by omega), if_pos (by omega), Int.toNat_natCast]
          have := (ixN_seq q1).1
          rw [this] at g1
          exact (Option.some.inj g1).symm
        rw [this] at g2
        exact g2.symm
      · show nameS (sgn (Txt.slice W none (some atI1) ++ ⟨#[ch]⟩ ++ Txt.slice W (some (atI1 + 1)) (some szI))) = true
        have e0 : atI1 = (at1 : Int) := by omega
        have e1 : (at1 : Int) + 1 = ((at1 + 1 : Nat) : Int) := by omega
        have e2 : szI = (sz1 : Int) := by omega
        rw [sgn_append, sgn_append, sgn_slice, sgn_slice, e0, e1, e2, cut_to, cut_mid _ _ _ (by omega) (by rw [w8]; omega)]
        have ec : sgn ⟨#[ch]⟩ = [ch] := rfl
        rw [ec]
        have hlen : min at1 8 + 1 + (min sz1 8 - (at1 + 1)) = sz1 := by rw [Nat.min_eq_left (by omega), Nat.min_eq_left (by omega)]; omega
        refine nameS_mk ?_ ?_ ?_
        · simp only [List.length_append, List.length_take, List.length_drop, w8, List.length_singleton]; rw [hlen]; omega
        · simp only [List.length_append, List.length_take, List.length_drop, w8, List.length_singleton]; rw [hlen]; omega
        · rw [List.all_append, List.all_append, all_take wL, all_drop (all_take wL sz1)]
          simp [hl]
    · rintro σ H3 ⟨ys, ok, os, rfl, s3, d3, ly3, pm, ny⟩
      refine ⟨_, rfl, q p ys H3 s3 pf d3 ly3 (nodup_by NmP pm fun i j y hij hj p1 p2 => ?_) ny⟩
      rw [hNm] at p1 p2
      have hb := (mod26 (sh + 5 * (i : Int)))
      have hb2 := (mod26 (sh + 5 * (j : Int)))
      rw [p1] at p2
      have nl : LET.Nodup := by decide +kernel
      have h1 : ((sh + 5 * (i : Int)) % 26).toNat < LET.length := by rw [LET_len]; omega
      have := (List.getElem?_inj h1 nl).mp p2
      exact mod_dif hij (by omega) this
end
end K21

set_option Elab.async false
set_option linter.all false
set_option maxRecDepth 100000
set_option maxHeartbeats 40000000
namespace K21
open PySem L2
section
variable {P : Program} {w : World} {K : PySem.W.Frag} {mg : Str → Option Value} {base : Heap}
theorem scLeaf : FnScope ["_law_cell_here", "_law_k", "_law_number", "_law_way"] ["_law_cell_here", "_law_k"] (defScope sLeaf) := ⟨rfl, rfl, rfl, by decide +kernel, rfl, by decide +kernel, by decide +kernel⟩
theorem ok_Leaf {f : Addr} {fd : FuncData} (F : Fun K "_law_leaf" "_law_leaf" sLeaf f fd) (T : Txt mg) (DMix : Df P w K mg base "_law_mix" ["_law_cell_here", "_law_k"] 1 spMix) : FnOk P w K mg base CX0 2 f fd ["_law_cell_here", "_law_k"] spLeaf2 := by
  obtain ⟨fMix, dMix, kMix, bMix, mMix, GMix⟩ := DMix.ex
  refine F.ok scLeaf (fun vs H Q E h => ?_) (fun cdv A outer s H vs Q E hr h => ?_)
  · obtain ⟨c, k, rfl, hk, q⟩ := h
    rfl
  · obtain ⟨c, k, rfl, hk, q⟩ := h
    have nd := scLeaf.nd
    have hu := hu_of hr
    have hrMix : Room 1 _ := hr.mono (by first | decide | omega)
    refine ⟨_, (pss_cons (ps_set (i := 2) nd rfl (Or.inl rfl) (pe_call GMix hrMix rfl mMix kMix bMix .nil pass0 (pa_cons (pv 0) (pa_cons (pv 1) pa_nil))))
      (pss_cons (ps_set (i := 3) nd rfl (Or.inl rfl) (pe_op op_mod (pv 2) pe_int))
      (pss_cons (ps_set (i := 2) nd rfl (Or.inl rfl) (pe_op op_fdiv (pv 2) pe_int))
      (pss_cons (ps_if (pt_cmpR op_eq (pv 3) pe_int (nomark _)) (pss_one (ps_ret (pe_op op_sub (pe_op op_mod (pv 2) pe_int) pe_int))) pss_nil)
      (pss_cons (ps_if (pt_cmpR op_eq (pv 3) pe_int (nomark _)) (pss_one (ps_ret (pe_slice sl_str (pe_slice sl_str pe_str (po_some (pe_op op_mod (pv 2) pe_int)) po_none) po_none (po_some (pe_op op_mod (pe_op op_fdiv (pv 2) pe_int) pe_int))))) pss_nil)
      (pss_one (ps_ret (pe_op op_mulB (pe_op op_mulB (pe_op op_sub pe_int (pe_op op_mulB (pe_op op_mod (pv 2) pe_int) pe_int)) (pv 2)) (pe_ix (r := rIxL K) ix_list (pe_lst (pa_cons pe_int (pa_cons (pe_op op_pow pe_int pe_int) (pa_cons (pe_op op_pow pe_int pe_int) pa_nil)))) (pe_op op_mod (pe_op op_fdiv (pv 2) pe_int) pe_int) (fun _ _ => rfl)))))))))), ?_⟩
    have leafI : ∀ (i : Int) H', Same H H' → Q (.int i) H' := fun i H' s1 => q _ _ (.inl ⟨i, rfl⟩) s1
    refine ⟨_, rfl, _, rfl, c, k, rfl, hk, fun n0 n1 n2 => ?_⟩
    refine ⟨_, rfl, _, _, rfl, rfl, (by show (0 : Int) < _; decide), ?_⟩
    refine ⟨_, rfl, _, _, rfl, rfl, ⟨by decide, by decide⟩, ?_⟩
    obtain ⟨n, hn⟩ : ∃ n : Int, n = n0 / 3 := ⟨_, rfl⟩
    have nb : 0 ≤ n ∧ n < 2305843009213693951 := by omega
    have eV : (V.int (n0 / 3)) = V.int n := by rw [hn]
    refine ⟨_, rfl, rfl, _, rfl, ?_⟩
    dsimp only
    rw [← hn]
    refine ite2 (fun _ => ?_) (fun _ => ?_)
    · exact ⟨_, rfl, _, _, rfl, rfl, (by show (0 : Int) < _; decide), _, _, rfl, rfl, leafI _ _ (Same.refl H)⟩
    refine ⟨_, rfl, rfl, _, rfl, ?_⟩
    refine ite2 (fun _ => ?_) (fun _ => ?_)
    · have m26 := mod26 n
      have m13 := mod_b (n / 26) (n := 13) (by decide)
      have l1 : (Txt.slice abc (some (n % 26)) none).length ≤ 26 := by
        have := Txt.slice_le abc (some (n % 26)) none
        rw [abc_len] at this
        exact this
      refine ⟨_, rfl, _, _, rfl, rfl, (by show (0 : Int) < _; decide), _, rfl, abc, rfl, by rw [abc_len]; decide, _, rfl, _, _, rfl, rfl, ⟨by decide, by decide⟩, _, _, rfl, rfl, (by show (0 : Int) < _; decide), _, rfl, _, rfl, Nat.le_of_lt (small1000 (Nat.le_trans l1 (by decide))), q _ _ (.inr ⟨_, rfl, ?_⟩) (Same.refl H)⟩
      obtain ⟨i, hi⟩ : ∃ i : Nat, n % 26 = (i : Int) := ⟨(n % 26).toNat, by omega⟩
      obtain ⟨j, hj⟩ : ∃ j : Nat, n / 26 % 13 = (j : Int) := ⟨(n / 26 % 13).toNat, by omega⟩
      have sg : sgn (Txt.slice (Txt.slice abc (some (n % 26)) none) none (some (n / 26 % 13))) = ((sgn abc).drop i).take j := by
        rw [sgn_slice, sgn_slice, hi, hj, cut_from, cut_to]
      have la : (sgn abc).all isL = true := by
        rw [List.all_eq_true]
        exact fun x hx => isL_of_mem hx
      unfold txtB
      rw [← sgn_length, sg, Bool.and_eq_true]
      refine ⟨decide_eq_true ?_, all_take (all_drop la i) j⟩
      rw [List.length_take]
      omega
    have small : ∀ x : Int, -(2 ^ 399) < x → x < 2 ^ 399 → x.natAbs < 2 ^ 400 := fun x h1 h2 => by omega
    have m2 := mod_b n (n := 2) (by decide)
    obtain ⟨e, he⟩ : ∃ e : Int, e = 1 - n % 2 * 2 := ⟨_, rfl⟩
    have eb : e = 1 ∨ e = -1 := by omega
    have pb : -(2 ^ 100) < e * n ∧ e * n < 2 ^ 100 := by rcases eb with rfl | rfl <;> omega
    refine ⟨_, rfl, _, _, rfl, rfl, (by show (0 : Int) < _; decide), _, _, rfl, rfl, ⟨small _ (by omega) (by omega), by decide⟩, _, _, rfl, rfl, _, rfl, _, _, rfl, rfl, ?_, ?_⟩
    · rw [← he]
      exact ⟨small _ (by omega) (by omega), small _ (by omega) (by omega)⟩
    rw [← he]
    refine ⟨_, _, rfl, rfl, ⟨by decide, by decide, by decide⟩, _, _, rfl, rfl, ⟨by decide, by decide, by decide⟩, by decide, fun l hl => ?_⟩
    refine ⟨_, rfl, _, _, rfl, rfl, ⟨by decide, by decide⟩, _, _, rfl, rfl, (by show (0 : Int) < _; decide), ?_⟩
    have m3 := mod_b (n / 2) (n := 3) (by decide)
    obtain ⟨v, hv, mv⟩ := pick_mem (xs := [V.int 1, V.int (10 ^ 14), V.int (10 ^ 28)]) m3.1 m3.2
    have vb : ∃ j : Int, v = .int j ∧ j.natAbs < 2 ^ 400 := by
      simp only [List.mem_cons, List.not_mem_nil, or_false] at mv
      rcases mv with rfl | rfl | rfl
      · exact ⟨_, rfl, by decide⟩
      · exact ⟨_, rfl, by decide⟩
      · exact ⟨_, rfl, by decide⟩
    obtain ⟨j, rfl, jb⟩ := vb
    exact ⟨l, _, _, _, rfl, rfl, SqL.of upd_same, hv, _, _, rfl, rfl, ⟨small _ (by omega) (by omega), jb⟩, leafI _ _ (Same.new hl)⟩
end
end K21

set_option Elab.async false
set_option linter.all false
set_option maxRecDepth 100000
set_option maxHeartbeats 40000000
namespace K21
open PySem L2
section
variable {P : Program} {w : World} {K : PySem.W.Frag} {mg : Str → Option Value} {base : Heap}
theorem scPart : FnScope ["_law_cell_here", "_law_deep", "_law_most", "_law_way"] ["_law_cell_here", "_law_deep", "_law_most"] (defScope sPart) := ⟨rfl, rfl, rfl, by decide +kernel, rfl, by decide +kernel, by decide +kernel⟩
theorem ok_Part {f : Addr} {fd : FuncData} (F : Fun K "_law_part" "_law_part" sPart f fd) (T : Txt mg) (DMix : Df P w K mg base "_law_mix" ["_law_cell_here", "_law_k"] 1 spMix) (DLeaf : Df P w K mg base "_law_leaf" ["_law_cell_here", "_law_k"] 2 spLeaf2) : FnOk P w K mg base CX0 3 f fd ["_law_cell_here", "_law_deep", "_law_most"] spPart := by
  obtain ⟨fMix, dMix, kMix, bMix, mMix, GMix⟩ := DMix.ex
  obtain ⟨fLeaf, dLeaf, kLeaf, bLeaf, mLeaf, GLeaf⟩ := DLeaf.ex
  refine F.ok scPart (fun vs H Q E h => ?_) (fun cdv A outer s H vs Q E hr h => ?_)
  · obtain ⟨c, d, m, rfl, q⟩ := h
    rfl
  · obtain ⟨c, d, m, rfl, q⟩ := h
    have nd := scPart.nd
    have hu := hu_of hr
    have hrMix : Room 1 _ := hr.mono (by first | decide | omega)
    have hrLeaf : Room 2 _ := hr.mono (by first | decide | omega)
    refine ⟨_, (pss_cons (ps_set (i := 3) nd rfl (Or.inl rfl) (pe_op op_mod (pe_call GMix hrMix rfl mMix kMix bMix .nil pass0 (pa_cons (pv 0) (pa_cons pe_int pa_nil))) pe_int))
      (pss_cons (ps_if (PW.pt (pw_and (pt_cmpR op_lt (pv 3) pe_int (nomark _)) (pw_and1 (pt_cmpR op_lt (pv 1) (pv 2) (nomark _))))) (pss_one (ps_ret (pe_lst pa_nil))) pss_nil)
      (pss_cons (ps_if (PW.pt (pw_and (pt_cmpR op_lt (pv 3) pe_int (nomark _)) (pw_and1 (pt_cmpR op_lt (pv 1) (pv 2) (nomark _))))) (pss_one (ps_ret pe_dnewK)) pss_nil)
      (pss_one (ps_ret (pe_call GLeaf hrLeaf rfl mLeaf kLeaf bLeaf .nil pass0 (pa_cons (pv 0) (pa_cons pe_int pa_nil)))))))), ?_⟩
    have row : ∀ p, H p = none → Q (.ref p) (upd H p (.lst [])) := fun p hp => q (.row p []) _ (Same.new hp) (by simp only [Dc.At, Dc.AtL, List.map_nil, and_true]; exact .inl upd_same) rfl (fun a ha o u e => by simp [Dc.addrs, Dc.addrsL] at ha; rw [ha, upd_same] at e; cases e) (fun a ha => by simp [Dc.addrs, Dc.addrsL] at ha; rw [ha]; exact hp)
    have tab : ∀ p, H p = none → Q (.ref p) (upd H p (.dK [])) := fun p hp => q (.tab p [] []) _ (Same.new hp) (by simp only [Dc.At, Dc.AtL, List.length_nil, List.nodup_nil, and_true, true_and]; exact .inl upd_same) ⟨rfl, rfl⟩ (fun a ha o u e => by simp [Dc.addrs, Dc.addrsL] at ha; rw [ha, upd_same] at e; cases e) (fun a ha => by simp [Dc.addrs, Dc.addrsL] at ha; rw [ha]; exact hp)
    have leaf : ∀ v H', LeafV v → Same H H' → Q v H' := fun v H' hv s1 => q (.leaf v) H' s1 hv.lf hv (fun a ha => by simp [Dc.addrs] at ha) (fun a ha => by simp [Dc.addrs] at ha)
    refine ⟨_, rfl, c, 2, rfl, by decide, fun r p1 p2 => ⟨_, _, rfl, rfl, (by show (0 : Int) < _; decide), ?_⟩⟩
    refine ⟨_, rfl, _, _, rfl, rfl, _, rfl, ?_⟩
    refine ite2 (fun _ => ⟨_, rfl, _, rfl, _, _, rfl, rfl, _, rfl, ?_⟩) (fun _ => ?_)
    · refine ite2 (fun _ => ⟨Nat.zero_le _, fun p hp => row p hp⟩) (fun _ => ?_)
      refine ⟨_, rfl, _, _, rfl, rfl, _, rfl, ?_⟩
      refine ite2 (fun _ => ⟨_, rfl, _, rfl, _, _, rfl, rfl, _, rfl, ?_⟩) (fun _ => ?_)
      · refine ite2 (fun _ => fun p hp => tab p hp) (fun _ => ?_)
        exact ⟨_, rfl, c, 3, rfl, by decide, leaf⟩
      · refine iteF ?_
        exact ⟨_, rfl, c, 3, rfl, by decide, leaf⟩
    · refine iteF ?_
      refine ⟨_, rfl, _, _, rfl, rfl, _, rfl, ?_⟩
      refine ite2 (fun _ => ⟨_, rfl, _, rfl, _, _, rfl, rfl, _, rfl, ?_⟩) (fun _ => ?_)
      · refine ite2 (fun _ => fun p hp => tab p hp) (fun _ => ?_)
        exact ⟨_, rfl, c, 3, rfl, by decide, leaf⟩
      · refine iteF ?_
        exact ⟨_, rfl, c, 3, rfl, by decide, leaf⟩
end
end K21

set_option Elab.async false
set_option linter.all false
set_option maxRecDepth 100000
set_option maxHeartbeats 40000000
namespace K21
open PySem L2
section
variable {P : Program} {w : World} {K : PySem.W.Frag} {mg : Str → Option Value} {base : Heap}
theorem scLaid : FnScope ["_law_holder", "_law_part_here", "_law_names_here", "_law_number", "_law_left"] ["_law_holder", "_law_part_here", "_law_names_here", "_law_number"] (defScope sLaid) := ⟨rfl, rfl, rfl, by decide +kernel, rfl, by decide +kernel, by decide +kernel⟩
theorem ok_Laid {f : Addr} {fd : FuncData} (F : Fun K "_law_laid" "_law_laid" sLaid f fd) (T : Txt mg) : FnOk P w K mg base CX0 1 f fd ["_law_holder", "_law_part_here", "_law_names_here", "_law_number"] (spLaid K) := by
  refine F.ok scLaid (fun vs H Q E h => ?_) (fun cdv A outer s H vs Q E hr h => ?_)
  · obtain ⟨b, n, y, ys, c, rfl, hc, hn, ln, ny, hb, q, qf⟩ := h
    rfl
  · obtain ⟨b, n, y, ys, c, rfl, hc, hn, ln, ny, hb, q, qf⟩ := h
    have nd := scLaid.nd
    have hu := hu_of hr
    refine ⟨_, (pss_cons (ps_if (pt_val (pe_callB call_isiN rfl T.isinstance b_isinstance (pa_cons (pv 0) (pa_cons (pe_bltn (v := .ty "list") rfl T.list b_list rfl) pa_nil)))) (pss_cons (ps_expr (pe_bm PySem.F.plainAttrs_list PySem.F.slot_list_insert PySem.F.type_list_insert mt_insert (pv 0) (pa_cons (pe_op op_mod (pv 3) (pe_op op_add (pe_callB call_len_seq rfl T.len PySem.boot_len (pa_cons (pv 0) pa_nil)) pe_int)) (pa_cons (pv 1) pa_nil))))
      (pss_one (ps_ret pe_bl))) pss_nil)
      (pss_cons (ps_setComp (i := 4)  (fv := ["_law_holder"]) (fs := [0]) rfl (.of (by rfl)) nd rfl (Or.inl rfl) (pi_list (pv 2)) (fun C s0 H0 fp => pts_one (pt_cmp (pc_dnotin hu (pv 0) (pv 1)))) (fun C s0 H0 fp => (pv 0)))
      (pss_cons (ps_if (pt_cmpR (op_eqE (Room.units0 hr)) (pv 4) (pe_lst pa_nil) (nomark _)) (pss_one (ps_ret pe_bl)) pss_nil)
      (pss_cons (ps_dput hu (pv 0) (pe_ix (r := rIxL K) ix_list (pv 4) (pe_op op_mod (pv 3) (pe_callB call_len_seq rfl T.len PySem.boot_len (pa_cons (pv 4) pa_nil))) (fun _ _ => rfl)) (pv 1) rfl)
      (pss_one (ps_ret pe_bl)))))), ?_⟩
    rcases hb with ⟨vs, hb, hz⟩ | ⟨kv, hb, hz⟩
    · refine ⟨_, rfl, _, "list", "list", rfl, rfl, .lst (.inl hb), _, rfl, iteT ?_⟩
      have m := mod_b c (n := (vs.length : Int) + 1) (by omega)
      obtain ⟨i, hi⟩ : ∃ i : Nat, c % ((vs.length : Int) + 1) = (i : Int) := ⟨(c % ((vs.length : Int) + 1)).toNat, by omega⟩
      refine ⟨_, rfl, .inl ⟨rfl, _, SqL.of hb⟩, _, rfl, _, rfl, b, _, rfl, .inl (SqL.of hb), _, _, rfl, rfl, _, _, rfl, rfl, (by show (0 : Int) < (vs.length : Int) + 1; omega), _, rfl, b, vs, i, y, rfl, ?_, hb, by omega, small1000 hz, ?_⟩
      · show [V.int (c % ((vs.length : Int) + 1)), y] = _
        rw [hi]
      · exact q _ Chg.upd (.inl ⟨vs, i, hb, upd_same⟩)
    · refine ⟨_, rfl, _, "list", "dict", rfl, rfl, .dK (.inl hb), _, rfl, iteF ?_⟩
      have li : ∀ i, i < ys.length → (ys.map V.str)[i]? = some (.str (ys.getD i "")) := fun i hi => by
        rw [List.getElem?_map, List.getElem?_eq_getElem hi, List.getD_eq_getElem?_getD, List.getElem?_eq_getElem hi]
        rfl
      have nD : ∀ {D : Addr} {zs : List V}, H D = none → upd H D (.lst zs) b = some (.dK kv) := fun h => by rw [upd_ne (ne_of_none hb h)]; exact hb
      refine ⟨_, rfl, n, rfl, ⟨_, hn⟩, ?_⟩
      refine comp_pure (n := ys.length) (fun i => .str (ys.getD i "")) (fun i => .str (ys.getD i "")) (fun i => !(valV kv (Sum.inr (ys.getD i ""))).isSome) (Nat.le_of_lt (small1000 (Nat.le_trans ln (by decide))))
        (fun i D zs hi hD => ⟨_, _, (Same.new hD).seq hn, li i hi⟩) (fun i D zs v H' hi hD y => ?_) (fun D zs hD => ⟨_, (Same.new hD).seq hn, by rw [List.length_map]; exact Nat.le_refl _⟩) (fun i D zs R hi hD r => ?_) (fun i D zs R hi hD _ r => ⟨_, rfl, r⟩) (fun D hD => ?_)
      · obtain ⟨e, y⟩ := y
        have := y _ ((Same.new hD).seq hn)
        rw [li i hi] at this
        exact ⟨(Option.some.inj this).symm, e⟩
      · exact ⟨_, rfl, _, rfl, b, _, rfl, DGet.k (k := Sum.inr (ys.getD i "")) (nD hD), _, rfl, r⟩
      · obtain ⟨lf, hlf⟩ : ∃ lf : List Str, lf = ((List.range ys.length).filter fun i => !(valV kv (Sum.inr (ys.getD i ""))).isSome).map fun i => ys.getD i "" := ⟨_, rfl⟩
        have el : List.map (fun i => V.str (ys.getD i "")) (List.filter (fun i => !(valV kv (Sum.inr (ys.getD i ""))).isSome) (List.range ys.length)) = lf.map V.str := by
          rw [hlf, List.map_map]
          rfl
        have lm : ∀ x ∈ lf, (nameB x = true ∧ x ∈ ys) ∧ valV kv (Sum.inr x) = none := fun x hx => by
          rw [hlf] at hx
          obtain ⟨i, hi, rfl⟩ := List.mem_map.mp hx
          have hi := List.mem_filter.mp hi
          have h1 := List.mem_range.mp hi.1
          have my : ys.getD i "" ∈ ys := by
            rw [List.getD_eq_getElem?_getD, List.getElem?_eq_getElem h1]
            exact List.getElem_mem h1
          refine ⟨⟨ny _ my, my⟩, ?_⟩
          · have := hi.2
            simp only [Bool.not_eq_true', Option.isSome_eq_false_iff, Option.isNone_iff_eq_none] at this
            exact this
        rw [el]
        have h1 : upd H D (.lst (lf.map V.str)) D = some (.lst (lf.map V.str)) := upd_same
        refine ⟨_, rfl, Nat.zero_le _, fun p hp => ?_⟩
        have h2 : upd (upd H D (.lst (lf.map V.str))) p (.lst []) D = some (.lst (lf.map V.str)) := by rw [upd_ne (ne_of_none h1 hp)]; exact h1
        have s2 : Same H (upd (upd H D (.lst (lf.map V.str))) p (.lst [])) := (Same.new hD).trans (Same.new hp)
        refine ⟨D, p, _, rfl, rfl, SqL.of h2, SqL.of upd_same, _, rfl, ?_⟩
        cases lf with
        | nil => exact iteT (qf _ s2)
        | cons x r =>
          refine iteF ?_
          have m := mod_b c (n := (((x :: r).map V.str).length : Int)) (by simp)
          obtain ⟨v, hv, mv⟩ := pick_mem m.1 m.2
          obtain ⟨z, hz2, rfl⟩ := List.mem_map.mp mv
          obtain ⟨nz, vz⟩ := lm z hz2
          have h3 := s2 _ _ hb
          refine ⟨_, rfl, _, rfl, _, rfl, _, rfl, _, rfl, D, _, rfl, .inl (SqL.of h2), _, _, rfl, rfl, (by show (0 : Int) < (((x :: r).map V.str).length : Int); simp), D, _, _, _, rfl, rfl, SqL.of h2, hv, b, _, rfl, DPut.k (k := Sum.inr z) h3 (small1000 hz), ?_⟩
          refine q _ (Chg.of s2 Chg.upd) (.inr ⟨kv, z, hb, valV_not vz, nz, ?_⟩)
          rw [upd_same, putK_new _ vz]
end
end K21

set_option Elab.async false
set_option linter.all false
set_option maxRecDepth 100000
set_option maxHeartbeats 40000000
namespace K21
open PySem L2
section
variable {P : Program} {w : World} {K : PySem.W.Frag} {mg : Str → Option Value} {base : Heap}
theorem scDoc : FnScope ["_law_script", "_law_start", "_law_names_here", "_law_first", "_law_most", "_law_doc_here", "_law_holders", "_law_many", "_law_k", "_law_cell_here", "_law_holder", "_law_deep", "_law_part_here"] ["_law_script", "_law_start", "_law_names_here"] (defScope sDoc) := ⟨rfl, rfl, rfl, by decide +kernel, rfl, by decide +kernel, by decide +kernel⟩
theorem ok_Doc {f : Addr} {fd : FuncData} (F : Fun K "_law_doc" "_law_doc" sDoc f fd) (T : Txt mg) (DCell : Df P w K mg base "_law_cell" ["_law_script", "_law_k"] 1 (spCell K)) (DMix : Df P w K mg base "_law_mix" ["_law_cell_here", "_law_k"] 1 spMix) (DPart : Df P w K mg base "_law_part" ["_law_cell_here", "_law_deep", "_law_most"] 3 spPart) (DLaid : Df P w K mg base "_law_laid" ["_law_holder", "_law_part_here", "_law_names_here", "_law_number"] 1 (spLaid K)) : FnOk P w K mg base CX0 4 f fd ["_law_script", "_law_start", "_law_names_here"] (spDoc2 K) := by
  obtain ⟨fCell, dCell, kCell, bCell, mCell, GCell⟩ := DCell.ex
  obtain ⟨fMix, dMix, kMix, bMix, mMix, GMix⟩ := DMix.ex
  obtain ⟨fPart, dPart, kPart, bPart, mPart, GPart⟩ := DPart.ex
  obtain ⟨fLaid, dLaid, kLaid, bLaid, mLaid, GLaid⟩ := DLaid.ex
  refine F.ok scDoc (fun vs H Q E h => ?_) (fun cdv A outer s H vs Q E hr h => ?_)
  · obtain ⟨a, n, ns, k, ys, rfl, hS, hlen, hk, hn, ln, ny, q⟩ := h
    rfl
  · obtain ⟨a, n, ns, k, ys, rfl, hS, hlen, hk, hn, ln, ny, q⟩ := h
    have nd := scDoc.nd
    have hu := hu_of hr
    have hrCell : Room 1 _ := hr.mono (by first | decide | omega)
    have hrMix : Room 1 _ := hr.mono (by first | decide | omega)
    have hrPart : Room 3 _ := hr.mono (by first | decide | omega)
    have hrLaid : Room 1 _ := hr.mono (by first | decide | omega)
    refine ⟨_, (pss_cons (ps_set (i := 3) nd rfl (Or.inl rfl) (pe_call GCell hrCell rfl mCell kCell bCell .nil pass0 (pa_cons (pv 0) (pa_cons (pv 1) pa_nil))))
      (pss_cons (ps_set (i := 4) nd rfl (Or.inl rfl) (pe_ix (r := rIxL K) ix_list (pe_lst (pa_cons pe_int (pa_cons pe_int (pa_cons pe_int (pa_cons pe_int pa_nil))))) (pe_op op_mod (pe_call GMix hrMix rfl mMix kMix bMix .nil pass0 (pa_cons (pv 3) (pa_cons pe_int pa_nil))) pe_int) (fun _ _ => rfl)))
      (pss_cons (ps_set (i := 5) nd rfl (Or.inl rfl) (pe_call GPart hrPart rfl mPart kPart bPart .nil pass0 (pa_cons (pv 3) (pa_cons pe_int (pa_cons (pv 4) pa_nil)))))
      (pss_cons (ps_set (i := 6) nd rfl (Or.inl rfl) (pe_lst pa_nil))
      (pss_cons (ps_if (pt_val (pe_callB call_isiLD rfl T.isinstance b_isinstance (pa_cons (pv 5) (pa_cons (pe_tup (pa_cons (pe_bltn (v := .ty "list") rfl T.list b_list rfl) (pa_cons (pe_bltn (v := .ty "dict") rfl T.dict b_dict rfl) pa_nil))) pa_nil)))) (pss_one (ps_expr (pe_bm PySem.F.plainAttrs_list PySem.F.slot_list_append PySem.F.type_list_append mt_append (pv 6) (pa_cons (pe_tup (pa_cons (pv 5) (pa_cons pe_int pa_nil))) pa_nil)))) pss_nil)
      (pss_cons (ps_set (i := 7) nd rfl (Or.inl rfl) pe_int)
      (pss_cons (ps_for PassesOwn.never rfl (pi_range2 rfl T.range (pa_cons pe_int (pa_cons (pe_callB (call_max2 rfl) rfl T.max b_max (pa_cons pe_int (pa_cons (pe_callB (call_min2 rfl) rfl T.min b_min (pa_cons pe_int (pa_cons (pe_op op_sub (pe_callB call_len_seq rfl T.len PySem.boot_len (pa_cons (pv 0) pa_nil)) (pv 1)) pa_nil))) pa_nil))) pa_nil))) (pg_name (i := 8) nd rfl (Or.inl rfl)) (pss_cons (ps_set (i := 9) nd rfl (Or.inl rfl) (pe_call GCell hrCell rfl mCell kCell bCell .nil pass0 (pa_cons (pv 0) (pa_cons (pe_op op_add (pv 1) (pv 8)) pa_nil))))
      (pss_one (ps_if (pt_cmpR (op_neE (Room.units0 hr)) (pv 6) (pe_lst pa_nil) (nomark _)) (pss_cons (ps_asg (pe_ix (r := rIxL K) ix_list (pv 6) (pe_op op_sub (pe_op op_sub (pe_callB call_len_seq rfl T.len PySem.boot_len (pa_cons (pv 6) pa_nil)) pe_int) (pe_op op_mod (pe_op op_mod (pe_call GMix hrMix rfl mMix kMix bMix .nil pass0 (pa_cons (pv 9) (pa_cons pe_int pa_nil))) (pe_callB call_len_seq rfl T.len PySem.boot_len (pa_cons (pv 6) pa_nil))) (pe_ix (r := rIxL K) ix_list (pe_lst (pa_cons pe_int (pa_cons pe_int pa_nil))) (pe_op op_fdiv (pv 4) pe_int) (fun _ _ => rfl)))) (fun _ _ => rfl)) (pg_tup rfl (pgs_cons (pg_name (i := 10) nd rfl (Or.inl rfl)) (pgs_cons (pg_name (i := 11) nd rfl (Or.inl rfl)) pgs_nil))))
      (pss_cons (ps_set (i := 12) nd rfl (Or.inl rfl) (pe_call GPart hrPart rfl mPart kPart bPart .nil pass0 (pa_cons (pv 9) (pa_cons (pv 11) (pa_cons (pv 4) pa_nil)))))
      (pss_one (ps_if (pt_val (pe_call GLaid hrLaid rfl mLaid kLaid bLaid .nil pass0 (pa_cons (pv 10) (pa_cons (pv 12) (pa_cons (pv 2) (pa_cons (pe_call GMix hrMix rfl mMix kMix bMix .nil pass0 (pa_cons (pv 9) (pa_cons pe_int pa_nil))) pa_nil)))))) (pss_cons (ps_set (i := 7) nd rfl (Or.inl rfl) (pe_op op_add (pv 7) pe_int))
      (pss_one (ps_if (pt_val (pe_callB call_isiLD rfl T.isinstance b_isinstance (pa_cons (pv 12) (pa_cons (pe_tup (pa_cons (pe_bltn (v := .ty "list") rfl T.list b_list rfl) (pa_cons (pe_bltn (v := .ty "dict") rfl T.dict b_dict rfl) pa_nil))) pa_nil)))) (pss_one (ps_expr (pe_bm PySem.F.plainAttrs_list PySem.F.slot_list_append PySem.F.type_list_append mt_append (pv 6) (pa_cons (pe_tup (pa_cons (pv 12) (pa_cons (pe_op op_add (pv 11) pe_int) pa_nil))) pa_nil)))) pss_nil))) pss_nil)))) pss_nil))))
      (pss_one (ps_ret (pe_tup (pa_cons (pv 5) (pa_cons (pv 7) pa_nil)))))))))))), ?_⟩
    refine ⟨_, rfl, _, rfl, a, ns, k, rfl, hS, fun c0 pc0 => ?_⟩
    refine ⟨by decide, fun l hl => ⟨_, rfl, c0, 4, rfl, by decide, fun r0 p0 q0 => ⟨_, _, rfl, rfl, (by show (0 : Int) < _; decide), ?_⟩⟩⟩
    have m4 := mod_b r0 (n := 4) (by decide)
    obtain ⟨v, hv, mv⟩ := pick_mem (xs := [V.int 4, V.int 4, V.int 4, V.int 16]) m4.1 m4.2
    have vb : ∃ m : Int, v = .int m ∧ (m / 16 = 0 ∨ m / 16 = 1) := by
      simp only [List.mem_cons, List.not_mem_nil, or_false] at mv
      rcases mv with rfl | rfl | rfl | rfl
      · exact ⟨_, rfl, by decide⟩
      · exact ⟨_, rfl, by decide⟩
      · exact ⟨_, rfl, by decide⟩
      · exact ⟨_, rfl, by decide⟩
    obtain ⟨m, rfl, hm⟩ := vb
    refine ⟨l, _, _, _, rfl, rfl, SqL.of upd_same, hv, ?_⟩
    have s1 : Same H (upd H l (.lst [.int 4, .int 4, .int 4, .int 16])) := Same.new hl
    refine ⟨_, rfl, _, rfl, c0, 0, m, rfl, fun p H2 s2 at2 bare2 own2 new2 => ?_⟩
    refine ⟨Nat.zero_le _, fun L hL => ?_⟩
    have s3 : Same H2 (upd H2 L (.lst [])) := Same.new hL
    have DI0 : DocInv H (upd H2 L (.lst [])) p L [] := by
      refine ⟨⟨(s1.trans s2).trans s3, Dc.at_same s3 at2, bare2.ok, bare2.nodup, fun b hb => frz_up (Dc.there at2 hb) (own2 b hb) (s3 b), fun b hb => s1.free (new2 b hb)⟩, (s1.trans s2).free hL, upd_same, fun h => ?_, fun t ht => nomatch ht⟩
      exact Dc.there at2 h hL
    dsimp only [gName]
    refine seq_if (t := tIfS _ _ _) (fun H5 => ∃ ts, DocInv H H5 p L ts ∧ ts.length ≤ 1) (fun H5 ⟨ts, DI, lt⟩ => ?_) (fun key => ?_)
    rotate_left
    · refine ⟨_, rfl, by decide, fun t ht => ⟨p.val, t, p.tyS, rfl, upd_same, Dc.tyN (Dc.at_same (Same.new ht) DI0.made.at_), _, rfl, ?_⟩⟩
      have DI1 := DI0.up (Same.new (o := .tup [.ty "list", .ty "dict"]) ht)
      have app : ∀ b, p.val = .ref b → b ∈ p.addrs → ∀ t2, (upd (upd H2 L (.lst [])) t (.tup [.ty "list", .ty "dict"])) t2 = none → ∃ ts, DocInv H (upd (upd (upd (upd H2 L (.lst [])) t (.tup [.ty "list", .ty "dict"])) t2 (.tup [p.val, .int 1])) L (.lst ([] ++ [.ref t2]))) p L ts ∧ ts.length ≤ 1 := fun b hb mb t2 ht2 => by
        have DI2 := DI1.up (Same.new (o := .tup [p.val, .int 1]) ht2)
        exact ⟨[t2], DI2.push (b := b) (k := 1) (by rw [upd_same, hb]) mb, Nat.le_refl _⟩
      cases p with
      | leaf v => exact iteBF (by cases v <;> rfl) (key _ ⟨[], DI1, Nat.zero_le _⟩)
      | row b xs =>
        refine iteBT rfl ⟨_, rfl, .inl ⟨rfl, _, SqL.of DI1.eL⟩, _, rfl, two_line, fun t2 ht2 => ⟨L, _, _, rfl, rfl, (DI1.up (Same.new ht2)).eL, by decide, key _ (app b rfl (by simp [Dc.addrs]) t2 ht2)⟩⟩
      | tab b ks xs =>
        refine iteBT rfl ⟨_, rfl, .inl ⟨rfl, _, SqL.of DI1.eL⟩, _, rfl, two_line, fun t2 ht2 => ⟨L, _, _, rfl, rfl, (DI1.up (Same.new ht2)).eL, by decide, key _ (app b rfl (by simp [Dc.addrs]) t2 ht2)⟩⟩
    have hS5 := DI.made.same.seq hS
    refine ⟨_, rfl, a, _, rfl, .inl hS5, _, rfl, _, _, rfl, rfl, _, _, rfl, _, _, rfl, _, _, rfl, ?_⟩
    have bound : ∀ x : Int, 1 ≤ (if (if x < 24 then x else 24) > 3 then (if x < 24 then x else 24) else 3) ∧ (if (if x < 24 then x else 24) > 3 then (if x < 24 then x else 24) else 3) ≤ 24 := fun x => by
      split <;> split <;> constructor <;> omega
    obtain ⟨J, hJ⟩ : ∃ J : Int, J = (if (if (((ns.map V.int).length : Nat) : Int) - (k : Int) < 24 then (((ns.map V.int).length : Nat) : Int) - (k : Int) else 24) > 3 then (if (((ns.map V.int).length : Nat) : Int) - (k : Int) < 24 then (((ns.map V.int).length : Nat) : Int) - (k : Int) else 24) else 3) := ⟨_, rfl⟩
    have bJ : 1 ≤ J ∧ J ≤ 24 := by rw [hJ]; exact bound _
    rw [← hJ]
    refine ⟨⟨by decide, by decide, by omega, by omega⟩, for_range (lo := 1) (fun i σ Hi => Ex7_6 (fun (d : Dc) (ts : List Addr) (o8 o9 o10 o11 o12 : Option V) => σ = [some (.ref a), some (.int (k : Int)), some (.ref n), some (.int c0), some (.int m), some p.val, some (.ref L), some (.int (d.size : Int)), o8, o9, o10, o11, o12]) (fun (d : Dc) (ts : List Addr) (o8 o9 o10 o11 o12 : Option V) => d.val = p.val) (fun (d : Dc) (ts : List Addr) (o8 o9 o10 o11 o12 : Option V) => DocInv H Hi d L ts) (fun (d : Dc) (ts : List Addr) (o8 o9 o10 o11 o12 : Option V) => d.size ≤ i + 1) (fun (d : Dc) (ts : List Addr) (o8 o9 o10 o11 o12 : Option V) => ts.length ≤ i + 1) (fun (d : Dc) (ts : List Addr) (o8 o9 o10 o11 o12 : Option V) => (ys ≠ [] → d.named ys)))
      ⟨p, ts, none, none, none, none, none, by rw [bare2.size]; rfl, rfl, DI, by rw [bare2.size]; omega, by omega, fun _ => bare2.named⟩ ?_ ?_⟩
    · rintro i σ Hi hi ⟨d, ts, o8, o9, o10, o11, o12, rfl, dv, DI, ds, lt, nmd⟩
      refine ⟨_, rfl, _, rfl, _, rfl, _, _, rfl, rfl, a, ns, k + (1 + i), (by show [V.ref a, V.int ((k : Int) + (1 + (i : Int)))] = _; simp), DI.made.same.seq hS, fun c pc => ?_⟩
      refine ⟨_, rfl, Nat.zero_le _, fun z hz => ?_⟩
      have DI1 := DI.up (Same.new (o := .lst []) hz)
      refine ⟨L, z, _, rfl, rfl, SqL.of DI1.eL, SqL.of upd_same, _, rfl, ?_⟩
      cases ts with
      | nil => exact iteF ⟨d, [], _, _, _, _, _, rfl, dv, DI1, by omega, by simp, nmd⟩
      | cons t0 tr =>
        refine iteT ?_
        obtain ⟨ts, hts⟩ : ∃ ts, ts = t0 :: tr := ⟨_, rfl⟩
        rw [← hts] at DI1 lt
        have lp : 0 < ts.length := by rw [hts]; simp
        have ll : (ts.map V.ref).length = ts.length := List.length_map ..
        refine ⟨_, rfl, _, rfl, L, _, rfl, .inl (SqL.of DI1.eL), _, _, rfl, rfl, _, rfl, c, 0, rfl, by decide, fun r1 p1 q1 => ⟨_, rfl, L, _, rfl, .inl (SqL.of DI1.eL), _, _, rfl, rfl, (by show (0 : Int) < ((ts.map V.ref).length : Int); rw [ll]; omega), ?_⟩⟩
        refine ⟨by decide, fun l2 hl2 => ⟨_, rfl, _, _, rfl, rfl, ⟨by decide, by decide⟩, ?_⟩⟩
        obtain ⟨v2, hv2, mv2⟩ := pick_mem (xs := [V.int 40, V.int 2]) (i := m / 16) (by omega) (by show m / 16 < (2 : Int); omega)
        have vb2 : ∃ j : Int, v2 = .int j ∧ 0 < j := by
          simp only [List.mem_cons, List.not_mem_nil, or_false] at mv2
          rcases mv2 with rfl | rfl
          · exact ⟨_, rfl, by decide⟩
          · exact ⟨_, rfl, by decide⟩
        obtain ⟨j, rfl, hj⟩ := vb2
        have DI2 := DI1.up (Same.new (o := .lst [.int 40, .int 2]) hl2)
        refine ⟨l2, _, _, _, rfl, rfl, SqL.of upd_same, hv2, _, _, rfl, rfl, hj, _, _, rfl, rfl, ?_⟩
        have b1 := mod_b r1 (n := ((ts.map V.ref).length : Int)) (by rw [ll]; omega)
        obtain ⟨x, hx⟩ : ∃ x : Int, x = r1 % ((ts.map V.ref).length : Int) := ⟨_, rfl⟩
        rw [← hx] at b1 ⊢
        have b2 := mod_b x hj
        have b3 : x % j ≤ x := by
          by_cases h : x < j
          · rw [Int.emod_eq_of_lt b1.1 h]; exact Int.le_refl _
          · omega
        obtain ⟨v3, hv3, mv3⟩ := pick_mem (xs := ts.map V.ref) (i := ((ts.map V.ref).length : Int) - 1 - x % j) (by omega) (by omega)
        obtain ⟨t, ht, rfl⟩ := List.mem_map.mp mv3
        obtain ⟨b, kk, et, hb⟩ := DI2.hold t ht
        refine ⟨L, _, _, _, rfl, rfl, SqL.of DI2.eL, hv3, t, _, rfl, SqT.of et, rfl, _, _, rfl, _, _, rfl, rfl, ?_⟩
        refine ⟨_, rfl, _, rfl, _, rfl, c, kk, m, rfl, fun p2 H4 s4 at4 bare4 own4 new4 => ?_⟩
        have DI4 := DI2.up s4
        have hn4 := DI4.made.same _ _ hn
        have hb4 : (∃ vs, H4 b = some (.lst vs) ∧ vs.length ≤ 1000) ∨ ∃ kv, H4 b = some (.dK kv) ∧ kv.length ≤ 1000 := by
          rcases Dc.holder_at d DI4.made.at_ hb with ⟨vs, e, l⟩ | ⟨ks, kv, e, _, l⟩
          · exact .inl ⟨vs, e.exact (DI4.made.own b hb), by omega⟩
          · exact .inr ⟨kv, e.exact (DI4.made.own b hb), by omega⟩
        refine ⟨_, rfl, _, rfl, _, rfl, _, rfl, c, 1, rfl, by decide, fun r2 p2' q2 => ?_⟩
        refine ⟨b, n, p2.val, ys, r2, rfl, p2', SqL.of hn4, ln, ny, hb4, fun H5 chg la => ⟨_, rfl, iteT ?_⟩, fun H5 s5 => ⟨_, rfl, iteF ⟨d, ts, _, _, _, _, _, rfl, dv, DI4.up s5, by omega, by omega, nmd⟩⟩⟩
        obtain ⟨d', e1, e2, DI5, in5, at5, nm5⟩ := DI2.laid s4 at4 bare4 own4 new4 hb chg la
        have nmd' : ys ≠ [] → d'.named ys := fun h => nm5 (by obtain ⟨y, r, e⟩ := List.exists_cons_of_ne_nil h; exact ⟨y, by rw [e]; exact List.mem_cons_self, ny y (by rw [e]; exact List.mem_cons_self)⟩) (nmd h)
        refine ⟨_, rfl, _, _, rfl, rfl, ?_⟩
        have esz : (d.size : Int) + 1 = (d'.size : Int) := by rw [e2]; simp
        refine ⟨_, rfl, by decide, fun t6 ht6 => ⟨p2.val, t6, p2.tyS, rfl, upd_same, Dc.tyN (Dc.at_same (Same.new ht6) at5), _, rfl, ?_⟩⟩
        have DI6 := DI5.up (Same.new (o := .tup [.ty "list", .ty "dict"]) ht6)
        have lz : (ts.map V.ref).length < sizeLine := small1000 (by rw [ll]; omega)
        have app : ∀ b7, p2.val = .ref b7 → b7 ∈ p2.addrs → ∀ t7, (upd H5 t6 (.tup [.ty "list", .ty "dict"])) t7 = none → DocInv H (upd (upd (upd H5 t6 (.tup [.ty "list", .ty "dict"])) t7 (.tup [p2.val, .int (kk + 1)])) L (.lst (ts.map V.ref ++ [.ref t7]))) d' L (ts ++ [t7]) := fun b7 hb7 mb7 t7 ht7 => by
          have DI7 := DI6.up (Same.new (o := .tup [p2.val, .int (kk + 1)]) ht7)
          exact DI7.push (b := b7) (k := kk + 1) (by rw [upd_same, hb7]) (in5 b7 mb7)
        cases p2 with
        | leaf v => exact iteBF (by cases v <;> rfl) ⟨d', ts, _, _, _, _, _, (by rw [← esz]; rfl), by rw [e1, dv], DI6, by omega, by omega, nmd'⟩
        | row b7 xs =>
          exact iteBT rfl ⟨_, rfl, .inl ⟨rfl, _, SqL.of DI6.eL⟩, _, rfl, _, rfl, _, _, rfl, rfl, two_line, fun t7 ht7 => ⟨L, _, _, rfl, rfl, (DI6.up (Same.new ht7)).eL, lz, d', ts ++ [t7], _, _, _, _, _, (by rw [← esz]; rfl), by rw [e1, dv], app b7 rfl (by simp [Dc.addrs]) t7 ht7, by omega, by simp; omega, nmd'⟩⟩
        | tab b7 ks xs =>
          exact iteBT rfl ⟨_, rfl, .inl ⟨rfl, _, SqL.of DI6.eL⟩, _, rfl, _, rfl, _, _, rfl, rfl, two_line, fun t7 ht7 => ⟨L, _, _, rfl, rfl, (DI6.up (Same.new ht7)).eL, lz, d', ts ++ [t7], _, _, _, _, _, (by rw [← esz]; rfl), by rw [e1, dv], app b7 rfl (by simp [Dc.addrs]) t7 ht7, by omega, by simp; omega, nmd'⟩⟩
    · rintro σ Hi ⟨d, ts, o8, o9, o10, o11, o12, rfl, dv, DI, ds, lt, nmd⟩
      refine ⟨_, rfl, _, rfl, two_line, fun t ht => ?_⟩
      refine q t d _ (DI.made.up (Same.new ht)) (by rw [upd_same, dv]) (by omega) nmd
end
end K21

set_option Elab.async false
set_option linter.all false
set_option maxRecDepth 100000
set_option maxHeartbeats 40000000
namespace K21
open PySem L2
section
variable {P : Program} {w : World} {K : PySem.W.Frag} {mg : Str → Option Value} {base : Heap}
theorem scCopy : FnScope ["_law_doc_here"] ["_law_doc_here"] (defScope sCopy) := ⟨rfl, rfl, rfl, by decide +kernel, rfl, by decide +kernel, by decide +kernel⟩
theorem ok_Copy {n : Nat} {f : Addr} {fd : FuncData} (F : Fun K "_law_copy" "_law_copy" sCopy f fd) (T : Txt mg) (DCopy : Df P w K mg base "_law_copy" ["_law_doc_here"] n (spCopy n)) : FnOk P w K mg base CX0 (n + 1) f fd ["_law_doc_here"] (spCopy (n + 1)) := by
  obtain ⟨fCopy, dCopy, kCopy, bCopy, mCopy, GCopy⟩ := DCopy.ex
  refine F.ok scCopy (fun vs H Q E h => ?_) (fun cdv A outer s H vs Q E hr h => ?_)
  · obtain ⟨d, rfl, hat, hdp, hsz, q⟩ := h
    rfl
  · obtain ⟨d, rfl, hat, hdp, hsz, q⟩ := h
    have nd := scCopy.nd
    have hu := hu_of hr
    have hrCopy : Room n _ := hr.mono (by first | decide | omega)
    refine ⟨_, (pss_cons (ps_if (pt_val (pe_callB call_isiN rfl T.isinstance b_isinstance (pa_cons (pv 0) (pa_cons (pe_bltn (v := .ty "list") rfl T.list b_list rfl) pa_nil)))) (pss_one (ps_ret (pe_comp (fv := []) (fs := []) rfl (.of (by rfl)) (pi_list (pv 0)) (fun _ _ _ _ => pts_nil) (fun C s0 H0 fp => (pe_call GCopy hrCopy rfl mCopy kCopy bCopy .nil pass0 (pa_cons (pv 0) pa_nil)))))) pss_nil)
      (pss_cons (ps_if (pt_val (pe_callB call_isiN rfl T.isinstance b_isinstance (pa_cons (pv 0) (pa_cons (pe_bltn (v := .ty "dict") rfl T.dict b_dict rfl) pa_nil)))) (pss_one (ps_ret (pe_callTy (call_dict_pairs rfl) rfl T.dict b_dict (pa_cons (pe_walk (pe_comp (fv := ["_law_doc_here"]) (fs := [0]) rfl (.of (by rfl)) (pi_dict (pv 0)) (fun _ _ _ _ => pts_nil) (fun C s0 H0 fp => (pe_tup (pa_cons (pv 0) (pa_cons (pe_call GCopy hrCopy rfl mCopy kCopy bCopy .nil pass0 (pa_cons (pe_dget hu (pv 1) (pv 0) (fun _ _ => rfl)) pa_nil)) pa_nil)))))) pa_nil)))) pss_nil)
      (pss_one (ps_ret (pv 0))))), ?_⟩
    cases d with
    | leaf v =>
      refine ⟨_, rfl, _, "list", Dc.tyS (.leaf v), rfl, rfl, Dc.tyN hat, _, rfl, iteBF (by cases v <;> rfl) ?_⟩
      refine ⟨_, rfl, _, "dict", Dc.tyS (.leaf v), rfl, rfl, Dc.tyN hat, _, rfl, iteBF (by cases v <;> rfl) ?_⟩
      exact ⟨_, rfl, q (.leaf v) H ⟨Same.refl H, hat, .nil, fun a h => (nomatch h), fun a h => (nomatch h)⟩ (Dc.like_refl _)⟩
    | row a xs =>
      refine ⟨_, rfl, _, "list", _, rfl, rfl, Dc.tyN hat, _, rfl, iteBT rfl ?_⟩
      simp only [Dc.At] at hat
      simp only [Dc.size] at hsz
      simp only [Dc.deep] at hdp
      have lx := Dc.lenL xs
      refine ⟨_, rfl, a, rfl, ⟨_, .inl hat.1⟩, ?_⟩
      refine comp_by xs.length (fun i => (xs.map Dc.val).getD i .non) (fun D i H2 => ∃ es, FreshL H H2 es ∧ D ∉ Dc.addrsL es ∧ H2 D = some (.lst (es.map Dc.val)) ∧ es.length = i ∧ Dc.likeL (xs.take i) es)
        (fun D hD => ⟨[], .nil (Same.new hD), (fun h => nomatch h), upd_same, rfl, by simp [Dc.likeL]⟩) (fun D i H2 hi ⟨es, F, _⟩ => ⟨_, _, .inl (hat.1.up (F.same _)), List.getElem?_eq_getElem (by rw [List.length_map]; exact hi)⟩)
        (fun D i H2 v H' hi ⟨es, F, _⟩ y => ?_) (fun D H2 ⟨es, F, _⟩ => ⟨_, .inl (hat.1.up (F.same _)), by rw [List.length_map]; exact Nat.le_refl _⟩) (fun D i H2 hD hi ⟨es, F, nD, eD, le, lk⟩ => ?_) (fun D H2 hD ⟨es, F, nD, eD, le, lk⟩ => ?_)
      · obtain ⟨e, y⟩ := y
        refine ⟨?_, e⟩
        have := y _ (.inl (hat.1.up (F.same _)))
        rw [List.getD_eq_getElem?_getD, this]
        rfl
      · obtain ⟨x, hx⟩ : ∃ x, xs[i]? = some x := ⟨_, List.getElem?_eq_getElem hi⟩
        have hm := List.mem_of_getElem? hx
        have dx := Dc.deepL_mem hm
        have sx := Dc.sizeL_mem hm
        have ev : (xs.map Dc.val).getD i .non = x.val := by rw [List.getD_eq_getElem?_getD, List.getElem?_map, hx]; rfl
        rw [ev]
        refine ⟨_, rfl, x, rfl, Dc.at_same F.same (Dc.AtL_mem hat.2 x hm), by omega, by omega, fun d' H3 f lk' => ?_⟩
        have F3 := F.snoc f
        have eD3 := f.same _ _ eD
        have nD3 : D ∉ Dc.addrsL (es ++ [d']) := by
          rw [Dc.addrsL_append]
          simp only [Dc.addrsL, List.append_nil, List.mem_append, not_or]
          exact ⟨nD, fun z => by have := f.new D z; rw [eD] at this; cases this⟩
        refine ⟨_, eD3, small1000 (by rw [List.length_map]; omega), es ++ [d'], F3.frame (F3.same.put hD) (fun b hb o e => ?_), nD3, ?_, by simp [le], ?_⟩
        · rw [upd_ne (fun z => nD3 (by rw [← z]; exact hb))]
          exact e
        · rw [upd_same, List.map_append]; rfl
        · rw [List.take_add_one, hx]
          exact Dc.likeL_append lk (by simp [Dc.likeL, lk'])
      · rw [List.take_length] at lk
        exact q (.row D es) H2 (F.row hD nD eD) (by simp only [Dc.like]; exact lk)
    | tab a ks xs =>
      refine ⟨_, rfl, _, "list", _, rfl, rfl, Dc.tyN hat, _, rfl, iteBF rfl ?_⟩
      refine ⟨_, rfl, _, "dict", _, rfl, rfl, Dc.tyN hat, _, rfl, iteBT rfl ?_⟩
      simp only [Dc.At] at hat
      simp only [Dc.size] at hsz
      simp only [Dc.deep] at hdp
      have lx := Dc.lenL xs
      have kl := Dc.kvs_len hat.2.1
      refine ⟨a, _, hat.1, fun o Hf F => ⟨_, rfl, a, o, _, rfl, F.at_, ?_⟩⟩
      refine comp_by xs.length (fun i => .str (ks.getD i "")) (fun D i H2 => ∃ (es : List Dc) (ts : List Addr), FreshL Hf H2 es ∧ D ∉ Dc.addrsL es ∧ H2 D = some (.lst (ts.map V.ref)) ∧ ts.length = i ∧ es.length = i ∧ Dc.likeL (xs.take i) es ∧
          ∀ (j : Nat) e, es[j]? = some e → ∃ t, ts[j]? = some t ∧ H2 t = some (.tup [.str (ks.getD j ""), e.val]) ∧ Hf t = none)
        (fun D hD => ⟨[], [], .nil (Same.new hD), (fun h => nomatch h), upd_same, rfl, rfl, by simp [Dc.likeL], fun j e h => by simp at h⟩) (fun D i H2 hi ⟨es, ts, F2, _⟩ => ⟨F2.same _ _ F.at_, by rw [kl]; exact hi⟩)
        (fun D i H2 v H' hi ⟨es, ts, F2, _⟩ y => ?_) (fun D H2 ⟨es, ts, F2, _⟩ => ⟨F2.same _ _ F.at_, kl.symm⟩) (fun D i H2 hD hi ⟨es, ts, F2, nD, eD, lt, le, lk, tp⟩ => ?_) (fun D H2 hD ⟨es, ts, F2, nD, eD, lt, le, lk, tp⟩ => ?_)
      · obtain ⟨e, k, v', e1, e2⟩ := y
        obtain ⟨nm, x, h1, h2, h3, h4, _⟩ := Dc.kvs_at hat.2.1 hat.2.2.1 e1
        refine ⟨?_, e⟩
        rw [e2, h3, List.getD_eq_getElem?_getD, h1]
        rfl
      · obtain ⟨kv, hkv⟩ : ∃ kv, (Dc.kvs ks xs)[i]? = some kv := ⟨_, List.getElem?_eq_getElem (by rw [kl]; exact hi)⟩
        obtain ⟨nm, x, h1, h2, h3, h4, h5, h6⟩ := Dc.kvs_at hat.2.1 hat.2.2.1 (k := kv.1) (v := kv.2) hkv
        have hm := List.mem_of_getElem? h2
        have dx := Dc.deepL_mem hm
        have sx := Dc.sizeL_mem hm
        have en : ks.getD i "" = nm := by rw [List.getD_eq_getElem?_getD, h1]; rfl
        rw [en]
        have rdp : SameR H H2 := F.rd.trans F2.same.r
        refine ⟨_, rfl, _, rfl, _, rfl, a, x.val, rfl, (by rw [← h6]; exact .inl ⟨_, Sum.inr nm, rdp a _ hat.1, rfl, rfl⟩), x, rfl, Dc.at_sameR rdp (Dc.AtL_mem hat.2.2.2 x hm), by omega, by omega, fun d' H3 f lk' => ⟨two_line, fun t ht => ?_⟩⟩
        have F3 := F2.snoc f
        have F4 := F3.up (Same.new (o := .tup [.str nm, d'.val]) ht)
        have eD4 := (Same.new (o := .tup [.str nm, d'.val]) ht) _ _ (f.same _ _ eD)
        have nD3 : D ∉ Dc.addrsL (es ++ [d']) := by
          rw [Dc.addrsL_append]
          simp only [Dc.addrsL, List.append_nil, List.mem_append, not_or]
          exact ⟨nD, fun z => by have := f.new D z; rw [eD] at this; cases this⟩
        have neD : ∀ {t' : Addr} {ys : List V}, upd H3 t (.tup [.str nm, d'.val]) t' = some (.tup ys) → t' ≠ D := fun h => ne_of h eD4 (by intro z; cases z)
        refine ⟨_, eD4, small1000 (by rw [List.length_map]; omega), es ++ [d'], ts ++ [t], F4.frame (F4.same.put hD) (fun b hb o e => ?_), nD3, by rw [upd_same, List.map_append]; rfl, by simp [lt], by simp [le], ?_, fun j e hj => ?_⟩
        · rw [upd_ne (fun z => nD3 (by rw [← z]; exact hb))]
          exact e
        · rw [List.take_add_one, h2]
          exact Dc.likeL_append lk (by simp [Dc.likeL, lk'])
        · by_cases hji : j < es.length
          · rw [List.getElem?_append_left hji] at hj
            obtain ⟨t', g1, g2, g3⟩ := tp j e hj
            have g2' := (Same.new (o := .tup [.str nm, d'.val]) ht) _ _ (f.same _ _ g2)
            exact ⟨t', by rw [List.getElem?_append_left (by omega)]; exact g1, by rw [upd_ne (neD g2')]; exact g2', g3⟩
          · have hl := (List.getElem?_eq_some_iff.mp hj).1
            rw [List.length_append, List.length_singleton] at hl
            have ej : j = i := by omega
            subst ej
            rw [List.getElem?_append_right (by omega), le, Nat.sub_self] at hj
            have e1 : d' = e := by simpa using hj
            subst e1
            refine ⟨t, by rw [List.getElem?_append_right (by omega), lt, Nat.sub_self]; rfl, ?_, F3.same.free ht⟩
            rw [upd_ne (neD (ys := [.str nm, d'.val]) upd_same), upd_same, en]
      · refine ⟨F2.same _ _ F.at_, ?_⟩
        rw [List.take_length] at lk
        have sb := F.back F2.same
        have ba : ∀ b, b ≠ a → back a H H2 b = H2 b := fun b hb => back_ne hb
        have Da : D ≠ a := (F.free hD).2
        have el : ks.length = es.length := by rw [le, hat.2.1]
        refine ⟨D, ts, Dc.kvs ks es, rfl, SqL.of (by rw [ba D Da]; exact eD), by rw [lt, Dc.kvs_len el, le], fun j k v e => ?_, by rw [Dc.kvs_len el, le]; omega, fun p hp => ?_⟩
        · obtain ⟨nm, x, h1, h2, h3, h4, _⟩ := Dc.kvs_at el hat.2.2.1 e
          obtain ⟨t, g1, g2, g3⟩ := tp j x h2
          refine ⟨t, g1, ?_⟩
          rw [ba t (F.free g3).2, g2, h3, h4, List.getD_eq_getElem?_getD, h1]
          rfl
        · have nk : ((Dc.kvs ks es).map (·.1)).Nodup := by
            rw [Dc.kvs_keys el]
            exact List.Pairwise.map _ (fun a b h z => h (Sum.inr.inj z)) hat.2.2.1
          have mk : mergeK [] (Dc.kvs ks es) = Dc.kvs ks es := mergeK_nodup _ _ (by simpa using nk)
          rw [mk]
          have hpH : H p = none := sb.free hp
          have np : p ∉ Dc.addrsL es := fun z => by
            have h1 := Dc.thereL F2.at_ z
            have pa : p ≠ a := (F.free (F2.new p z)).2
            rw [ba p pa] at hp
            exact h1 hp
          have FL : FreshL H (upd (back a H H2) p (.dK (Dc.kvs ks es))) es := by
            refine ⟨sb.put hpH, Dc.atL_frame es (fun b hb o e => ?_) F2.at_, F2.nd, fun b hb => ?_, fun b hb => (F.free (F2.new b hb)).1⟩
            · rw [upd_ne (fun z => np (by rw [← z]; exact hb)), ba b (F.free (F2.new b hb)).2]
              exact e
            · refine frz_up (Dc.thereL F2.at_ hb) (F2.own b hb) (fun o e => ?_)
              rw [upd_ne (fun z => np (by rw [← z]; exact hb)), ba b (F.free (F2.new b hb)).2]
              exact e
          exact q (.tab p ks es) _ (FL.tab hpH np el hat.2.2.1 upd_same) (by simp only [Dc.like]; exact ⟨trivial, lk⟩)
theorem all_Copy {f : Addr} {fd : FuncData} (F : Fun K "_law_copy" "_law_copy" sCopy f fd) (T : Txt mg) (b : Binds K fd ["_law_doc_here"] []) (m : mg "_law_copy" = some (.ref f)) : ∀ n : Nat, FnOk P w K mg base CX0 n f fd ["_law_doc_here"] (spCopy n)
  | 0 => none0 (fun vs H Q E h => by obtain ⟨d, _, _, h0, _⟩ := h; have := Dc.deep_pos d; omega)
  | n + 1 => ok_Copy F T (Df.mk' F b m (all_Copy F T b m n))
end
end K21

set_option Elab.async false
set_option linter.all false
set_option maxRecDepth 100000
set_option maxHeartbeats 40000000
namespace K21
open PySem L2
section
variable {P : Program} {w : World} {K : PySem.W.Frag} {mg : Str → Option Value} {base : Heap}
theorem scAlike : FnScope ["_law_one", "_law_other"] ["_law_one", "_law_other"] (defScope sAlike) := ⟨rfl, rfl, rfl, by decide +kernel, rfl, by decide +kernel, by decide +kernel⟩
theorem ok_Alike {n : Nat} {f : Addr} {fd : FuncData} (F : Fun K "_law_alike" "_law_alike" sAlike f fd) (T : Txt mg) (DAlike : Df P w K mg base "_law_alike" ["_law_one", "_law_other"] n (spAlikeE n)) : FnOk P w K mg base CX0 (n + 1) f fd ["_law_one", "_law_other"] (spAlikeE (n + 1)) := by
  obtain ⟨fAlike, dAlike, kAlike, bAlike, mAlike, GAlike⟩ := DAlike.ex
  refine F.ok scAlike (fun vs H Q E h => ?_) (fun cdv A outer s H vs Q E hr h => ?_)
  · obtain ⟨d, e, rfl, hat, hbt, hlk, hsz, hdp, q⟩ := h
    rfl
  · obtain ⟨d, e, rfl, hat, hbt, hlk, hsz, hdp, q⟩ := h
    have nd := scAlike.nd
    have hu := hu_of hr
    have hrAlike : Room n _ := hr.mono (by first | decide | omega)
    refine ⟨_, (pss_cons (ps_if (pt_val (pe_callB call_isiN rfl T.isinstance b_isinstance (pa_cons (pv 0) (pa_cons (pe_bltn (v := .ty "list") rfl T.list b_list rfl) pa_nil)))) (pss_cons (ps_if (PW.pt (pw_or (pt_not (pt_val (pe_callB call_isiN rfl T.isinstance b_isinstance (pa_cons (pv 1) (pa_cons (pe_bltn (v := .ty "list") rfl T.list b_list rfl) pa_nil))))) (pw_or1 (pt_cmpR op_ne (pe_callB call_len_seq rfl T.len PySem.boot_len (pa_cons (pv 0) pa_nil)) (pe_callB call_len_seq rfl T.len PySem.boot_len (pa_cons (pv 1) pa_nil)) (nomark _))))) (pss_one (ps_ret pe_bl)) pss_nil)
      (pss_one (ps_ret (pe_callB (call_all rfl) rfl T.all b_all (pa_cons (pe_comp (fv := ["_law_one", "_law_other"]) (fs := [0, 1]) rfl (.of (by rfl)) (pi_range1 rfl T.range (pa_cons (pe_callB call_len_seq rfl T.len PySem.boot_len (pa_cons (pv 0) pa_nil)) pa_nil)) (fun _ _ _ _ => pts_nil) (fun C s0 H0 fp => (pe_call GAlike hrAlike rfl mAlike kAlike bAlike .nil pass0 (pa_cons (pe_ix (r := rIxL K) ix_list (pv 1) (pv 0) (fun _ _ => rfl)) (pa_cons (pe_ix (r := rIxL K) ix_list (pv 2) (pv 0) (fun _ _ => rfl)) pa_nil))))) pa_nil))))) pss_nil)
      (pss_cons (ps_if (pt_val (pe_callB call_isiN rfl T.isinstance b_isinstance (pa_cons (pv 0) (pa_cons (pe_bltn (v := .ty "dict") rfl T.dict b_dict rfl) pa_nil)))) (pss_cons (ps_if (PW.pt (pw_or (pt_not (pt_val (pe_callB call_isiN rfl T.isinstance b_isinstance (pa_cons (pv 1) (pa_cons (pe_bltn (v := .ty "dict") rfl T.dict b_dict rfl) pa_nil))))) (pw_or1 (pt_cmpR (op_neL (Room.units0 hr)) (pe_callB (call_sortedD rfl) rfl T.sorted b_sorted (pa_cons (pv 0) pa_nil)) (pe_callB (call_sortedD rfl) rfl T.sorted b_sorted (pa_cons (pv 1) pa_nil)) (nomark _))))) (pss_one (ps_ret pe_bl)) pss_nil)
      (pss_one (ps_ret (pe_callB (call_all rfl) rfl T.all b_all (pa_cons (pe_walk (pe_comp (fv := ["_law_one", "_law_other"]) (fs := [0, 1]) rfl (.of (by rfl)) (pi_dict (pv 0)) (fun _ _ _ _ => pts_nil) (fun C s0 H0 fp => (pe_call GAlike hrAlike rfl mAlike kAlike bAlike .nil pass0 (pa_cons (pe_dget hu (pv 1) (pv 0) (fun _ _ => rfl)) (pa_cons (pe_dget hu (pv 2) (pv 0) (fun _ _ => rfl)) pa_nil)))))) pa_nil))))) pss_nil)
      (pss_cons (ps_if (pt_val (pe_callB call_isiN rfl T.isinstance b_isinstance (pa_cons (pv 0) (pa_cons (pe_bltn (v := .ty "str") rfl T.str b_str rfl) pa_nil)))) (pss_one (ps_ret (pe_and (pe_callB call_isiN rfl T.isinstance b_isinstance (pa_cons (pv 1) (pa_cons (pe_bltn (v := .ty "str") rfl T.str b_str rfl) pa_nil))) (pe_one (pe_cmpR op_eq (pv 0) (pv 1) (nomark _)))))) pss_nil)
      (pss_one (ps_ret (pe_and (pe_callB call_isiN rfl T.isinstance b_isinstance (pa_cons (pv 1) (pa_cons (pe_bltn (v := .ty "int") rfl T.int b_int rfl) pa_nil))) (pe_and (pe_not (pe_callB call_isiN rfl T.isinstance b_isinstance (pa_cons (pv 1) (pa_cons (pe_bltn (v := .ty "bool") rfl T.bool b_bool rfl) pa_nil)))) (pe_one (pe_cmpR op_eq (pv 0) (pv 1) (nomark _)))))))))), ?_⟩
    have ones : ∀ (n : Nat), (List.map (fun _ => V.bl true) (List.filter (fun _ => true) (List.range n))) = (List.replicate n true).map V.bl := fun n => by
      rw [List.filter_eq_self.mpr fun _ _ => rfl, List.map_replicate]
      exact List.ext_getElem (by simp) fun i h1 h2 => by simp
    have allT : ∀ n : Nat, (List.replicate n true).all id = true := fun n => by simp
    cases d with
    | leaf v =>
      cases e with
      | leaf w' =>
        have ev : v = w' := by cases hlk; rfl
        subst ev
        rcases (show Dc.Lf v from hat) with ⟨i, rfl⟩ | ⟨x, rfl, _⟩
        · refine ⟨_, rfl, _, "list", "int", rfl, rfl, .int i, _, rfl, iteF ⟨_, rfl, _, "dict", "int", rfl, rfl, .int i, _, rfl, iteF ⟨_, rfl, _, "str", "int", rfl, rfl, .int i, _, rfl, iteF ?_⟩⟩⟩
          refine ⟨_, rfl, _, "int", "int", rfl, rfl, .int i, _, rfl, iteT ⟨_, rfl, _, "bool", "int", rfl, rfl, .int i, _, rfl, _, rfl, iteT ⟨_, rfl, _, rfl, rfl, ?_⟩⟩⟩
          have e : decide (V.int i = V.int i) = true := decide_eq_true rfl
          have := q H (Same.refl H)
          rw [← e] at this
          exact this
        · refine ⟨_, rfl, _, "list", "str", rfl, rfl, .str x, _, rfl, iteF ⟨_, rfl, _, "dict", "str", rfl, rfl, .str x, _, rfl, iteF ⟨_, rfl, _, "str", "str", rfl, rfl, .str x, _, rfl, iteT ?_⟩⟩⟩
          refine ⟨_, rfl, _, "str", "str", rfl, rfl, .str x, _, rfl, iteT ⟨_, rfl, _, rfl, rfl, ?_⟩⟩
          have e : decide (V.str x = V.str x) = true := decide_eq_true rfl
          have := q H (Same.refl H)
          rw [← e] at this
          exact this
      | row b ys => cases hlk
      | tab b ls ys => cases hlk
    | row a xs =>
      cases e with
      | leaf w' => cases hlk
      | tab b ls ys => cases hlk
      | row b ys =>
        have hsl := Dc.slim_of _ (show (Dc.row a xs).size < 64 by omega)
        obtain ⟨ll, hq⟩ : xs.length = ys.length ∧ ∀ (i : Nat) x y, xs[i]? = some x → ys[i]? = some y → Dc.Eqv x y := by
          cases hlk with
          | row l h => exact ⟨l, h⟩
        refine ⟨_, rfl, _, "list", _, rfl, rfl, Dc.tyN hat, _, rfl, iteBT rfl ?_⟩
        refine ⟨_, rfl, _, "list", _, rfl, rfl, Dc.tyN hbt, _, rfl, iteBF rfl ?_⟩
        simp only [Dc.At] at hat hbt
        simp only [Dc.slim] at hsl
        simp only [Dc.size] at hsz
        simp only [Dc.deep] at hdp
        have lx := Dc.lenL xs
        refine ⟨_, rfl, a, _, rfl, .inl (.inl hat.1), _, rfl, b, _, rfl, .inl (.inl hbt.1), rfl, _, rfl, iteNS (by rw [List.length_map, List.length_map, ll]) ?_⟩
        have lm : (xs.map Dc.val).length = xs.length := List.length_map ..
        refine ⟨_, rfl, a, _, rfl, .inl (.inl hat.1), _, rfl, by omega, by omega, ?_⟩
        refine comp_grow (n := xs.length) (fun i => .int (0 + (i : Int))) (fun _ => .bl true) (fun _ => true) (le_line (by omega)) (fun i H2 hi s2 => (by show i < ((List.map Dc.val xs).length : Int).toNat; omega)) (fun i H2 v H' hi s2 y => ⟨y.2, y.1⟩)
          (fun H2 s2 => (by show ((List.map Dc.val xs).length : Int).toNat ≤ xs.length; omega)) (fun i H2 R hi s2 r => by exact r H2 (Same.refl H2)) (fun i H2 R hi s2 _ r => ?_) (fun D H2 hD s2 d2 => ?_)
        · obtain ⟨x, hx⟩ : ∃ x, xs[i]? = some x := ⟨_, List.getElem?_eq_getElem hi⟩
          obtain ⟨y, hy⟩ : ∃ y, ys[i]? = some y := ⟨_, List.getElem?_eq_getElem (by omega)⟩
          have lxy := hq i x y hx hy
          have hm := List.mem_of_getElem? hx
          have hm' := List.mem_of_getElem? hy
          have dx := Dc.deepL_mem hm
          have sx := Dc.sizeL_mem hm
          have e0 : (0 : Int) + (i : Int) = (i : Int) := Int.zero_add _
          exact ⟨_, rfl, _, rfl, a, _, _, _, rfl, rfl, .inl (hat.1.up (s2 _)), (by rw [e0]; exact atI_nat (by rw [List.getElem?_map, hx]; rfl)), _, rfl, _, rfl, b, _, _, _, rfl, rfl, .inl (hbt.1.up (s2 _)), (by rw [e0]; exact atI_nat (by rw [List.getElem?_map, hy]; rfl)),
            x, y, rfl, Dc.at_same s2 (Dc.AtL_mem hat.2 x hm), Dc.at_same s2 (Dc.AtL_mem hbt.2 y hm'), lxy, by omega, by omega, r⟩
        · rw [ones] at d2
          refine ⟨D, List.replicate xs.length true, rfl, SqL.of d2, ?_⟩
          rw [allT]
          exact q H2 s2
    | tab a ks xs =>
      cases e with
      | leaf w' => cases hlk
      | row b ys => cases hlk
      | tab b ls ys =>
        have hsl := Dc.slim_of _ (show (Dc.tab a ks xs).size < 64 by omega)
        obtain ⟨pm, hq⟩ : ks.Perm ls ∧ ∀ k x y, (ks.zip xs).lookup k = some x → (ls.zip ys).lookup k = some y → Dc.Eqv x y := by
          cases hlk with
          | tab p h => exact ⟨p, h⟩
        refine ⟨_, rfl, _, "list", _, rfl, rfl, Dc.tyN hat, _, rfl, iteBF rfl ?_⟩
        refine ⟨_, rfl, _, "dict", _, rfl, rfl, Dc.tyN hat, _, rfl, iteBT rfl ?_⟩
        refine ⟨_, rfl, _, "dict", _, rfl, rfl, Dc.tyN hbt, _, rfl, iteBF rfl ?_⟩
        simp only [Dc.At] at hat hbt
        simp only [Dc.slim] at hsl
        simp only [Dc.size] at hsz
        simp only [Dc.deep] at hdp
        have lx := Dc.lenL xs
        have kl := Dc.kvs_len hat.2.1
        have kl' := Dc.kvs_len hbt.2.1
        have ll : xs.length = ys.length := by rw [← hat.2.1, ← hbt.2.1, pm.length_eq]
        refine ⟨_, rfl, a, _, ks, rfl, hat.1, Dc.kvs_keys hat.2.1, by rw [kl]; exact hsl.1, fun p1 ss1 H1 np1 s1 hp1 pm1 st1 => ?_⟩
        refine ⟨_, rfl, b, _, ls, rfl, hbt.1.up (s1 _), Dc.kvs_keys hbt.2.1, by rw [kl', ← ll]; exact hsl.1, fun p2 ss2 H2 np2 s2 hp2 pm2 st2 => ?_⟩
        have es : ss1 = ss2 := sortedS_one st1 st2 ((pm1.trans pm).trans pm2.symm)
        subst es
        have fl : ∀ z ∈ ss1.map V.str, flatV z = true := fun z hz => by
          obtain ⟨y, _, rfl⟩ := List.mem_map.mp hz
          rfl
        refine ⟨p1, p2, _, _, rfl, rfl, SqL.of (s2 _ _ hp1), SqL.of hp2, fl, fl, _, rfl, iteBF (by rw [eqTs_self fl]; rfl) ?_⟩
        have s12 := s1.trans s2
        refine ⟨a, _, hat.1.up (s12 _), fun o Hf F => ⟨_, rfl, a, o, _, rfl, F.at_, ?_⟩⟩
        have rf : SameR H Hf := s12.r.trans F.rd
        refine comp_grow (n := xs.length) (fun i => .str (ks.getD i "")) (fun _ => .bl true) (fun _ => true) (le_line (by omega)) (fun i H2 hi s2 => ⟨s2 _ _ F.at_, by rw [kl]; exact hi⟩) (fun i H2 v H' hi s2 y => ?_) (fun H2 s2 => ⟨s2 _ _ F.at_, kl.symm⟩) (fun i H2 R hi s2 r => by exact r H2 (Same.refl H2))
          (fun i H2 R hi s2 _ r => ?_) (fun D H2 hD s2 d2 => ?_)
        · obtain ⟨e, k, w', e1, e2⟩ := y
          obtain ⟨nm, x, h1, h2, h3, h4, _⟩ := Dc.kvs_at hat.2.1 hat.2.2.1 e1
          refine ⟨?_, e⟩
          rw [e2, h3, List.getD_eq_getElem?_getD, h1]
          rfl
        · obtain ⟨kv, hkv⟩ : ∃ kv, (Dc.kvs ks xs)[i]? = some kv := ⟨_, List.getElem?_eq_getElem (by rw [kl]; exact hi)⟩
          obtain ⟨nm, x, h1, h2, h3, h4, h5, h6⟩ := Dc.kvs_at hat.2.1 hat.2.2.1 (k := kv.1) (v := kv.2) hkv
          obtain ⟨y, lky, hm'⟩ := Dc.lookup_of_mem hbt.2.1 (pm.mem_iff.mp (List.mem_of_getElem? h1))
          have lxy := hq nm x y h5 lky
          have h6' : valV (Dc.kvs ls ys) (Sum.inr nm) = some y.val := by rw [Dc.valV_kvs hbt.2.1, lky]; rfl
          have hm := List.mem_of_getElem? h2
          have dx := Dc.deepL_mem hm
          have sx := Dc.sizeL_mem hm
          have en : ks.getD i "" = nm := by rw [List.getD_eq_getElem?_getD, h1]; rfl
          rw [en]
          have rdp : SameR H H2 := rf.trans s2.r
          exact ⟨_, rfl, _, rfl, a, x.val, rfl, (by rw [← h6]; exact .inl ⟨_, Sum.inr nm, rdp a _ hat.1, rfl, rfl⟩), _, rfl, _, rfl, b, y.val, rfl, (by rw [← h6']; exact .inl ⟨_, Sum.inr nm, rdp b _ hbt.1, rfl, rfl⟩),
            x, y, rfl, Dc.at_sameR rdp (Dc.AtL_mem hat.2.2.2 x hm), Dc.at_sameR rdp (Dc.AtL_mem hbt.2.2.2 y hm'), lxy, by omega, by omega, r⟩
        · refine ⟨s2 _ _ F.at_, ?_⟩
          have Da : D ≠ a := (F.free hD).2
          rw [ones] at d2
          refine ⟨D, List.replicate xs.length true, rfl, SqL.of (by rw [back_ne Da]; exact d2), ?_⟩
          rw [allT]
          exact q _ (s12.trans (F.back s2))
theorem all_Alike {f : Addr} {fd : FuncData} (F : Fun K "_law_alike" "_law_alike" sAlike f fd) (T : Txt mg) (b : Binds K fd ["_law_one", "_law_other"] []) (m : mg "_law_alike" = some (.ref f)) : ∀ n : Nat, FnOk P w K mg base CX0 n f fd ["_law_one", "_law_other"] (spAlikeE n)
  | 0 => none0 (fun vs H Q E h => by obtain ⟨d, _, _, _, _, _, _, h0, _⟩ := h; have := Dc.deep_pos d; omega)
  | n + 1 => ok_Alike F T (Df.mk' F b m (all_Alike F T b m n))
end
end K21

set_option Elab.async false
set_option linter.all false
set_option maxRecDepth 100000
set_option maxHeartbeats 40000000
namespace K21
open PySem L2
section
variable {P : Program} {w : World} {K : PySem.W.Frag} {mg : Str → Option Value} {base : Heap}
theorem scPaths : FnScope ["_law_doc_here", "_law_ahead", "_law_found", "_law_k", "_law_name"] ["_law_doc_here", "_law_ahead"] (defScope sPaths) := ⟨rfl, rfl, rfl, by decide +kernel, rfl, by decide +kernel, by decide +kernel⟩
theorem ok_Paths {n : Nat} {f : Addr} {fd : FuncData} (F : Fun K "_law_paths" "_law_paths" sPaths f fd) (T : Txt mg) (DPaths : Df P w K mg base "_law_paths" ["_law_doc_here", "_law_ahead"] n (spPaths n)) : FnOk P w K mg base CX0 (n + 1) f fd ["_law_doc_here", "_law_ahead"] (spPaths (n + 1)) := by
  obtain ⟨fPaths, dPaths, kPaths, bPaths, mPaths, GPaths⟩ := DPaths.ex
  refine F.ok scPaths (fun vs H Q E h => ?_) (fun cdv A outer s H vs Q E hr h => ?_)
  · obtain ⟨d, t, xs, rfl, hat, hok, hsl, hsz, ht, hx, q⟩ := h
    rfl
  · obtain ⟨d, t, xs, rfl, hat, hok, hsl, hsz, ht, hx, q⟩ := h
    have nd := scPaths.nd
    have hu := hu_of hr
    have hrPaths : Room n _ := hr.mono (by first | decide | omega)
    refine ⟨_, (pss_cons (ps_set (i := 2) nd rfl (Or.inl rfl) (pe_lst (pa_cons (pv 1) pa_nil)))
      (pss_cons (ps_if (pt_val (pe_callB call_isiN rfl T.isinstance b_isinstance (pa_cons (pv 0) (pa_cons (pe_bltn (v := .ty "list") rfl T.list b_list rfl) pa_nil)))) (pss_one (ps_for PassesOwn.never rfl (pi_range1 rfl T.range (pa_cons (pe_callB call_len_seq rfl T.len PySem.boot_len (pa_cons (pv 0) pa_nil)) pa_nil)) (pg_name (i := 3) nd rfl (Or.inl rfl)) (pss_one (ps_expr (pe_bm PySem.F.plainAttrs_list PySem.F.slot_list_extend PySem.F.type_list_extend mt_extend (pv 2) (pa_cons (pe_call GPaths hrPaths rfl mPaths kPaths bPaths .nil pass0 (pa_cons (pe_ix (r := rIxL K) ix_list (pv 0) (pv 3) (fun _ _ => rfl)) (pa_cons (pe_op op_catE (pv 1) (pe_tup (pa_cons (pv 3) pa_nil))) pa_nil))) pa_nil)))))) pss_nil)
      (pss_cons (ps_if (pt_val (pe_callB call_isiN rfl T.isinstance b_isinstance (pa_cons (pv 0) (pa_cons (pe_bltn (v := .ty "dict") rfl T.dict b_dict rfl) pa_nil)))) (pss_one (ps_for PassesOwn.never rfl (pi_list (pe_callB (call_sortedD rfl) rfl T.sorted b_sorted (pa_cons (pv 0) pa_nil))) (pg_name (i := 4) nd rfl (Or.inl rfl)) (pss_one (ps_expr (pe_bm PySem.F.plainAttrs_list PySem.F.slot_list_extend PySem.F.type_list_extend mt_extend (pv 2) (pa_cons (pe_call GPaths hrPaths rfl mPaths kPaths bPaths .nil pass0 (pa_cons (pe_dget hu (pv 0) (pv 4) (fun _ _ => rfl)) (pa_cons (pe_op op_catE (pv 1) (pe_tup (pa_cons (pv 4) pa_nil))) pa_nil))) pa_nil)))))) pss_nil)
      (pss_one (ps_ret (pv 2)))))), ?_⟩
    refine ⟨_, rfl, one_line, fun p hp => ?_⟩
    have sp1 : Same H (upd H p (.lst [.ref t])) := Same.new hp
    have hp1 : upd H p (.lst [.ref t]) p = some (.lst ([t].map V.ref)) := upd_same
    have hat1 := Dc.at_same sp1 hat
    have ht1 := sp1 _ _ ht
    have nep : ∀ {Hx : Hp} {ys zs : List V} {z : Addr}, Hx p = some (.lst ys) → Hx z = some (.tup zs) → z ≠ p := fun h1 h2 => ne_of h2 h1 (by intro z; cases z)
    have v0 : ∀ z ∈ [t], ∃ zs, upd H p (.lst [.ref t]) z = some (.tup (xs ++ zs)) ∧ (d.sub zs).isSome = true := fun z hz => by
      rw [List.mem_singleton.mp hz]
      refine ⟨[], by rw [List.append_nil]; exact ht1, ?_⟩
      cases d <;> rfl
    cases d with
    | leaf v =>
      refine ⟨_, rfl, _, "list", Dc.tyS (.leaf v), rfl, rfl, Dc.tyN hat1, _, rfl, iteBF (by cases v <;> rfl) ?_⟩
      refine ⟨_, rfl, _, "dict", Dc.tyS (.leaf v), rfl, rfl, Dc.tyN hat1, _, rfl, iteBF (by cases v <;> rfl) ?_⟩
      exact ⟨_, rfl, q p [t] _ sp1 hp hp1 rfl v0⟩
    | row a ds =>
      refine ⟨_, rfl, _, "list", Dc.tyS (.row a ds), rfl, rfl, Dc.tyN hat1, _, rfl, iteBT rfl ?_⟩
      have hat := hat
      simp only [Dc.At] at hat hat1
      simp only [Dc.ok] at hok
      simp only [Dc.slim] at hsl
      simp only [Dc.deep] at hsz
      simp only [Dc.size] at hx
      have lds := Dc.lenL ds
      have ll : (ds.map Dc.val).length = ds.length := List.length_map ..
      refine ⟨_, rfl, a, _, rfl, .inl (.inl hat1.1), _, rfl, by omega, by omega, for_range (lo := 0) (fun i σ Hi => ∃ (ps : List Addr) (o3 o4 : Option V), σ = [some (.ref a), some (.ref t), some (.ref p), o3, o4] ∧ Same H Hi ∧ Hi p = some (.lst (ps.map V.ref)) ∧ ps.length = 1 + Dc.sizeL (ds.take i) ∧ ∀ z ∈ ps, ∃ zs, Hi z = some (.tup (xs ++ zs)) ∧ ((Dc.row a ds).sub zs).isSome = true)
        ⟨[t], none, none, rfl, sp1, hp1, rfl, v0⟩ ?_ ?_⟩
      · rintro i σ Hi hi ⟨ps, o3, o4, rfl, si, hpi, lps, vps⟩
        have hi' : i < ds.length := by rw [← ll]; omega
        obtain ⟨x, hxi⟩ : ∃ x, ds[i]? = some x := ⟨_, List.getElem?_eq_getElem hi'⟩
        have hm := List.mem_of_getElem? hxi
        have szx := Dc.sizeL_mem hm
        have e0 : (0 : Int) + (i : Int) = (i : Int) := Int.zero_add _
        have hv : atI (ds.map Dc.val) (0 + (i : Int)) = some x.val := by
          rw [e0]
          exact atI_nat (by rw [List.getElem?_map, hxi]; rfl)
        have lz : ps.length + x.size ≤ 1000 := by
          have := Dc.sizeL_take_succ hxi
          have := Dc.take_drop_size ds (i + 1)
          omega
        refine ⟨_, rfl, .inl ⟨rfl, _, SqL.of hpi⟩, _, rfl, _, rfl, a, _, _, _, rfl, rfl, (.inl (hat.1.up (si _))), hv, _, rfl, _, rfl, one_line, fun t1 ht1' => ?_⟩
        have s1 := si.trans (Same.new (o := .tup [.int (0 + (i : Int))]) ht1')
        refine ⟨t, t1, xs, [.int (0 + (i : Int))], rfl, rfl, s1 _ _ ht, upd_same, le_line (by simp; omega), fun t2 H3 s3 ht2 => ?_⟩
        have s3' := s1.trans s3
        refine ⟨x, t2, _, rfl, Dc.at_same s3' (Dc.AtL_mem hat.2 x hm), Dc.okL_iff.mp hok x hm, Dc.slimL_mem hsl x hm, (by have := Dc.deepL_mem hm; omega), ht2, by simp; omega, fun p2 ps2 H4 s4 np2 hp2 l2 v2 => ?_⟩
        have s4' := s3'.trans s4
        have s5 := ((Same.new (o := .tup [.int (0 + (i : Int))]) ht1').trans s3).trans s4
        refine ⟨p, p2, _, _, rfl, rfl, s5 _ _ hpi, hp2, le_line (by simp; omega), ps ++ ps2, _, _, rfl, s4'.put hp, by rw [upd_same, List.map_append], ?_, fun z hz => ?_⟩
        · rw [List.length_append, lps, l2, Dc.sizeL_take_succ hxi]
          omega
        · rcases List.mem_append.mp hz with hz | hz
          · obtain ⟨zs, e1, e2⟩ := vps z hz
            refine ⟨zs, ?_, e2⟩
            rw [upd_ne (nep hpi e1)]
            exact s5 _ _ e1
          · obtain ⟨zs, e1, e2⟩ := v2 z hz
            refine ⟨.int (0 + (i : Int)) :: zs, ?_, ?_⟩
            · rw [upd_ne (nep (s5 _ _ hpi) e1), e1, List.append_assoc]
              rfl
            · simp only [Dc.sub, e0]
              rw [if_pos (by omega), Int.toNat_natCast, hxi]
              exact e2
      · rintro σ Hi ⟨ps, o3, o4, rfl, si, hpi, lps, vps⟩
        refine ⟨_, rfl, _, "dict", Dc.tyS (.row a ds), rfl, rfl, Dc.tyN (H := Hi) (d := .row a ds) (Dc.at_same si (by simp only [Dc.At]; exact hat)), _, rfl, iteBF rfl ?_⟩
        refine ⟨_, rfl, q p ps Hi si hp hpi ?_ vps⟩
        rw [lps, List.take_of_length_le (by rw [← ll]; omega)]
        simp only [Dc.size]
    | tab a ks ds =>
      refine ⟨_, rfl, _, "list", Dc.tyS (.tab a ks ds), rfl, rfl, Dc.tyN hat1, _, rfl, iteBF rfl ?_⟩
      refine ⟨_, rfl, _, "dict", Dc.tyS (.tab a ks ds), rfl, rfl, Dc.tyN hat1, _, rfl, iteBT rfl ?_⟩
      have hat := hat
      simp only [Dc.At] at hat hat1
      simp only [Dc.ok] at hok
      simp only [Dc.slim] at hsl
      simp only [Dc.deep] at hsz
      simp only [Dc.size] at hx
      have lds := Dc.lenL ds
      have kk := Dc.kvs_keys (ks := ks) (xs := ds) hat.2.1
      have kl : (Dc.kvs ks ds).length = ks.length := by
        have := congrArg List.length kk
        simpa using this
      refine ⟨_, rfl, a, _, ks, rfl, hat1.1, kk, by rw [kl]; omega, fun p3 ss' H3 np3 s3 hp3 perm srt => ?_⟩
      have s3' := sp1.trans s3
      have hpp : p ≠ p3 := ne_of_none hp1 np3
      refine ⟨p3, rfl, ⟨_, SqL.of hp3⟩, for_list (xs := ss'.map V.str) (fun i σ Hi => ∃ (ps : List Addr) (o3 o4 : Option V), σ = [some (.ref a), some (.ref t), some (.ref p), o3, o4] ∧ Same H Hi ∧ Hi p3 = some (.lst (ss'.map V.str)) ∧ Hi p = some (.lst (ps.map V.ref)) ∧ ps.length = 1 + ((ss'.take i).map (Dc.szAt ks ds)).sum ∧ ∀ z ∈ ps, ∃ zs, Hi z = some (.tup (xs ++ zs)) ∧ ((Dc.tab a ks ds).sub zs).isSome = true)
        ⟨[t], none, none, rfl, s3', hp3, s3 _ _ hp1, rfl, fun z hz => let ⟨zs, e1, e2⟩ := v0 z hz; ⟨zs, s3 _ _ e1, e2⟩⟩ (fun i σ Hi hi ⟨ps, o3, o4, e, si, h3, r⟩ => SqL.of h3) ?_ ?_⟩
      · rintro i nm σ Hi hnm ⟨ps, o3, o4, rfl, si, h3, hpi, lps, vps⟩
        obtain ⟨k, hk, rfl⟩ : ∃ k, ss'[i]? = some k ∧ V.str k = nm := by
          rw [List.getElem?_map] at hnm
          cases e : ss'[i]? with
          | none => rw [e] at hnm; cases hnm
          | some k => rw [e] at hnm; exact ⟨k, rfl, Option.some.inj hnm⟩
        have mk : k ∈ ks := perm.mem_iff.mp (List.mem_of_getElem? hk)
        obtain ⟨x, hxk, hm⟩ := Dc.lookup_of_mem hat.2.1 mk
        have szx := Dc.sizeL_mem hm
        have esz : Dc.szAt ks ds k = x.size := by simp [Dc.szAt, hxk]
        have tk : ((ss'.take (i + 1)).map (Dc.szAt ks ds)).sum = ((ss'.take i).map (Dc.szAt ks ds)).sum + x.size := by
          rw [List.take_add_one, hk, List.map_append, List.sum_append]
          simp [esz]
        have tot := Dc.szAt_perm hat.2.1 hat.2.2.1 perm
        have lz : ps.length + x.size ≤ 1000 := by
          have : ((ss'.take (i + 1)).map (Dc.szAt ks ds)).sum + ((ss'.drop (i + 1)).map (Dc.szAt ks ds)).sum = (ss'.map (Dc.szAt ks ds)).sum := by
            rw [← List.sum_append, ← List.map_append, List.take_append_drop]
          omega
        have hv : valV (Dc.kvs ks ds) (Sum.inr k) = some x.val := by rw [Dc.valV_kvs hat.2.1, hxk]; rfl
        refine ⟨_, rfl, .inl ⟨rfl, _, SqL.of hpi⟩, _, rfl, _, rfl, a, x.val, rfl, (by rw [← hv]; exact .inl ⟨_, Sum.inr k, hat.1.up (si _), rfl, rfl⟩), _, rfl, _, rfl, one_line, fun t1 ht1' => ?_⟩
        have s1 := si.trans (Same.new (o := .tup [.str k]) ht1')
        refine ⟨t, t1, xs, [.str k], rfl, rfl, s1 _ _ ht, upd_same, le_line (by simp; omega), fun t2 H3 s3 ht2 => ?_⟩
        have s3' := s1.trans s3
        refine ⟨x, t2, _, rfl, Dc.at_same s3' (Dc.AtL_mem hat.2.2.2 x hm), Dc.okL_iff.mp hok.2 x hm, Dc.slimL_mem hsl.2 x hm, (by have := Dc.deepL_mem hm; omega), ht2, by simp; omega, fun p2 ps2 H4 s4 np2 hp2 l2 v2 => ?_⟩
        have s4' := s3'.trans s4
        have s5 := ((Same.new (o := .tup [.str k]) ht1').trans s3).trans s4
        refine ⟨p, p2, _, _, rfl, rfl, s5 _ _ hpi, hp2, le_line (by simp; omega), ps ++ ps2, _, _, rfl, s4'.put hp, by rw [upd_ne (Ne.symm hpp)]; exact s5 _ _ h3, by rw [upd_same, List.map_append], ?_, fun z hz => ?_⟩
        · rw [List.length_append, lps, l2, tk]
          omega
        · rcases List.mem_append.mp hz with hz | hz
          · obtain ⟨zs, e1, e2⟩ := vps z hz
            refine ⟨zs, ?_, e2⟩
            rw [upd_ne (nep hpi e1)]
            exact s5 _ _ e1
          · obtain ⟨zs, e1, e2⟩ := v2 z hz
            refine ⟨.str k :: zs, ?_, ?_⟩
            · rw [upd_ne (nep (s5 _ _ hpi) e1), e1, List.append_assoc]
              rfl
            · simp only [Dc.sub, hxk]
              exact e2
      · rintro σ Hi ⟨ps, o3, o4, rfl, si, h3, hpi, lps, vps⟩
        refine ⟨_, rfl, q p ps Hi si hp hpi ?_ vps⟩
        rw [lps, List.length_map, List.take_length, Dc.szAt_perm hat.2.1 hat.2.2.1 perm]
        simp only [Dc.size]
theorem all_Paths {f : Addr} {fd : FuncData} (F : Fun K "_law_paths" "_law_paths" sPaths f fd) (T : Txt mg) (b : Binds K fd ["_law_doc_here", "_law_ahead"] []) (m : mg "_law_paths" = some (.ref f)) : ∀ n : Nat, FnOk P w K mg base CX0 n f fd ["_law_doc_here", "_law_ahead"] (spPaths n)
  | 0 => none0 (fun vs H Q E h => by obtain ⟨d, _, _, _, _, _, _, h0, _⟩ := h; have := Dc.deep_pos d; omega)
  | n + 1 => ok_Paths F T (Df.mk' F b m (all_Paths F T b m n))
end
end K21

set_option Elab.async false
set_option linter.all false
set_option maxRecDepth 100000
set_option maxHeartbeats 40000000
namespace K21
open PySem L2
section
variable {P : Program} {w : World} {K : PySem.W.Frag} {mg : Str → Option Value} {base : Heap}
theorem scAt : FnScope ["_law_doc_here", "_law_path", "_law_step"] ["_law_doc_here", "_law_path"] (defScope sAt) := ⟨rfl, rfl, rfl, by decide +kernel, rfl, by decide +kernel, by decide +kernel⟩
theorem ok_At {f : Addr} {fd : FuncData} (F : Fun K "_law_at" "_law_at" sAt f fd) (T : Txt mg) : FnOk P w K mg base CX0 1 f fd ["_law_doc_here", "_law_path"] spFound := by
  refine F.ok scAt (fun vs H Q E h => ?_) (fun cdv A outer s H vs Q E hr h => ?_)
  · obtain ⟨d, t, xs, e, rfl, hat, ht, hx, hs, q⟩ := h
    rfl
  · obtain ⟨d, t, xs, e, rfl, hat, ht, hx, hs, q⟩ := h
    have nd := scAt.nd
    have hu := hu_of hr
    refine ⟨_, (pss_cons (ps_for PassesOwn.never rfl (pi_tup (pv 1)) (pg_name (i := 2) nd rfl (Or.inl rfl)) (pss_one (ps_set (i := 0) nd rfl (Or.inl rfl) (pe_alt (pe_ix (r := rIxL K) ix_list (pv 0) (pv 2) (fun _ _ => rfl)) (pe_dget hu (pv 0) (pv 2) (fun _ _ => rfl))))))
      (pss_one (ps_ret (pv 0)))), ?_⟩
    refine ⟨_, rfl, t, rfl, ⟨_, SqT.of ht⟩, for_tup (xs := xs) (fun i σ Hi => ∃ (p : Dc) (o3 : Option V), σ = [some p.val, some (.ref t), o3] ∧ Hi = H ∧ p.At H ∧ p.sub (xs.drop i) = some e) ⟨d, none, rfl, rfl, hat, hs⟩ (fun i σ Hi _ ⟨_, _, _, e, _⟩ => by rw [e]; exact SqT.of ht) ?_ ?_⟩
    · rintro i z σ Hi hz ⟨p, o3, rfl, rfl, pat, ps⟩
      have hi := (List.getElem?_eq_some_iff.mp hz).1
      have dr : xs.drop i = z :: xs.drop (i + 1) := by rw [List.drop_eq_getElem_cons hi, (List.getElem?_eq_some_iff.mp hz).2]
      rw [dr] at ps
      rcases Dc.sub_cons ps with ⟨a, ys, j, y, rfl, rfl, hy, h'⟩ | ⟨a, ks, ys, k, y, rfl, rfl, hy, h'⟩
      · have pat' := pat
        simp only [Dc.At] at pat'
        exact .inl ⟨_, rfl, _, rfl, a, _, _, _, rfl, rfl, .inl pat'.1, atI_nat (by rw [List.getElem?_map, hy]; rfl), y, _, rfl, rfl, Dc.AtL_mem pat'.2 y (List.mem_of_getElem? hy), h'⟩
      · have pat' := pat
        simp only [Dc.At] at pat'
        have hv : valV (Dc.kvs ks ys) (Sum.inr k) = some y.val := by rw [Dc.valV_kvs pat'.2.1, hy]; rfl
        exact .inr ⟨_, rfl, _, rfl, a, y.val, rfl, (by rw [← hv]; exact .inl ⟨_, Sum.inr k, pat'.1, rfl, rfl⟩), y, _, rfl, rfl, Dc.AtL_mem pat'.2.2.2 y (Dc.mem_zip_lookup hy).2, h'⟩
    · rintro σ Hi ⟨p, o3, rfl, rfl, pat, ps⟩
      rw [List.drop_length, Dc.sub_nil] at ps
      cases ps
      exact ⟨_, rfl, q⟩
end
end K21

set_option Elab.async false
set_option linter.all false
set_option maxRecDepth 100000
set_option maxHeartbeats 40000000
namespace K21
open PySem L2
section
variable {P : Program} {w : World} {K : PySem.W.Frag} {mg : Str → Option Value} {base : Heap}
theorem scStands : FnScope ["_law_doc_here", "_law_path", "_law_step"] ["_law_doc_here", "_law_path"] (defScope sStands) := ⟨rfl, rfl, rfl, by decide +kernel, rfl, by decide +kernel, by decide +kernel⟩
theorem ok_Stands {f : Addr} {fd : FuncData} (F : Fun K "_law_stands" "_law_stands" sStands f fd) (T : Txt mg) : FnOk P w K mg base CX0 1 f fd ["_law_doc_here", "_law_path"] spStands := by
  refine F.ok scStands (fun vs H Q E h => ?_) (fun cdv A outer s H vs Q E hr h => ?_)
  · obtain ⟨d, t, xs, rfl, hat, ht, hx, q⟩ := h
    rfl
  · obtain ⟨d, t, xs, rfl, hat, ht, hx, q⟩ := h
    have nd := scStands.nd
    have hu := hu_of hr
    refine ⟨_, (pss_cons (ps_for PassesOwn.never rfl (pi_tup (pv 1)) (pg_name (i := 2) nd rfl (Or.inl rfl)) (pss_cons (ps_if (pt_val (pe_callB call_isiN rfl T.isinstance b_isinstance (pa_cons (pv 2) (pa_cons (pe_bltn (v := .ty "str") rfl T.str b_str rfl) pa_nil)))) (pss_one (ps_if (PW.pt (pw_or (pt_not (pt_val (pe_callB call_isiN rfl T.isinstance b_isinstance (pa_cons (pv 0) (pa_cons (pe_bltn (v := .ty "dict") rfl T.dict b_dict rfl) pa_nil))))) (pw_or1 (pt_cmp (pc_dnotin hu (pv 2) (pv 0)))))) (pss_one (ps_ret pe_bl)) pss_nil)) (pss_one (ps_if (PW.pt (pw_or (pt_not (pt_val (pe_callB call_isiN rfl T.isinstance b_isinstance (pa_cons (pv 0) (pa_cons (pe_bltn (v := .ty "list") rfl T.list b_list rfl) pa_nil))))) (pw_or1 (pt_cmpR op_ge (pv 2) (pe_callB call_len_seq rfl T.len PySem.boot_len (pa_cons (pv 0) pa_nil)) (nomark _))))) (pss_one (ps_ret pe_bl)) pss_nil)))
      (pss_one (ps_set (i := 0) nd rfl (Or.inl rfl) (pe_alt (pe_ix (r := rIxL K) ix_list (pv 0) (pv 2) (fun _ _ => rfl)) (pe_dget hu (pv 0) (pv 2) (fun _ _ => rfl)))))))
      (pss_one (ps_ret pe_bl))), ?_⟩
    refine ⟨_, rfl, t, rfl, ⟨_, SqT.of ht⟩, for_tup (xs := xs) (fun i σ Hi => ∃ (p : Dc) (o3 : Option V), σ = [some p.val, some (.ref t), o3] ∧ Hi = H ∧ p.At H ∧ p.sub (xs.drop i) = d.sub xs) ⟨d, none, rfl, rfl, hat, rfl⟩ (fun i σ Hi _ ⟨_, _, _, e, _⟩ => by rw [e]; exact SqT.of ht) ?_ ?_⟩
    · rintro i z σ Hi hz ⟨p, o3, rfl, rfl, pat, ps⟩
      have hi := (List.getElem?_eq_some_iff.mp hz).1
      have dr : xs.drop i = z :: xs.drop (i + 1) := by rw [List.drop_eq_getElem_cons hi, (List.getElem?_eq_some_iff.mp hz).2]
      rw [dr] at ps
      have no : (∀ r, p.sub (z :: r) = none) → Q (.bl false) Hi := fun h => by
        rw [h] at ps
        have := q
        rw [← ps] at this
        exact this
      have pat' := pat
      rcases hx z (List.mem_of_getElem? hz) with ⟨j, rfl⟩ | ⟨k, rfl, _⟩
      · refine ⟨_, rfl, _, "str", "int", rfl, rfl, .int _, _, rfl, iteF ?_⟩
        cases p with
        | leaf v => exact ⟨_, rfl, _, "list", Dc.tyS (.leaf v), rfl, rfl, Dc.tyN pat, _, rfl, iteBT (by cases v <;> rfl) (iteT (no fun r => rfl))⟩
        | tab a ks ys => exact ⟨_, rfl, _, "list", _, rfl, rfl, Dc.tyN pat, _, rfl, iteBT rfl (iteT (no fun r => rfl))⟩
        | row a ys =>
          simp only [Dc.At] at pat'
          refine ⟨_, rfl, _, "list", _, rfl, rfl, Dc.tyN pat, _, rfl, iteBF rfl ⟨_, rfl, _, rfl, a, _, rfl, .inl (.inl pat'.1), _, _, rfl, rfl, _, rfl, ite2 (fun h => ?_) (fun h => ?_)⟩⟩
          · have h := of_decide_eq_true h
            rw [List.length_map] at h
            refine no fun r => ?_
            simp only [Dc.sub]
            rw [if_pos (by omega), List.getElem?_eq_none (by omega)]
            rfl
          · have hj : j < ys.length := by
              refine Nat.lt_of_not_le fun z => h (decide_eq_true ?_)
              rw [List.length_map]
              omega
            obtain ⟨y, hy⟩ : ∃ y, ys[j]? = some y := ⟨_, List.getElem?_eq_getElem hj⟩
            rw [Dc.sub_row hy] at ps
            exact .inl ⟨_, rfl, _, rfl, a, _, _, _, rfl, rfl, .inl pat'.1, atI_nat (by rw [List.getElem?_map, hy]; rfl), y, _, rfl, rfl, Dc.AtL_mem pat'.2 y (List.mem_of_getElem? hy), ps⟩
      · refine ⟨_, rfl, _, "str", "str", rfl, rfl, .str _, _, rfl, iteT ?_⟩
        cases p with
        | leaf v => exact ⟨_, rfl, _, "dict", Dc.tyS (.leaf v), rfl, rfl, Dc.tyN pat, _, rfl, iteBT (by cases v <;> rfl) (iteT (no fun r => rfl))⟩
        | row a ys => exact ⟨_, rfl, _, "dict", _, rfl, rfl, Dc.tyN pat, _, rfl, iteBT rfl (iteT (no fun r => rfl))⟩
        | tab a ks ys =>
          simp only [Dc.At] at pat'
          refine ⟨_, rfl, _, "dict", _, rfl, rfl, Dc.tyN pat, _, rfl, iteBF rfl ⟨_, rfl, _, rfl, a, _, rfl, .inl ⟨_, Sum.inr k, pat'.1, rfl, rfl⟩, _, rfl, ?_⟩⟩
          rw [Dc.valV_kvs pat'.2.1]
          cases hy : (ks.zip ys).lookup k with
          | none =>
            refine iteBT rfl (no fun r => ?_)
            simp only [Dc.sub, hy]
            rfl
          | some y =>
            refine iteBF rfl ?_
            have hv : valV (Dc.kvs ks ys) (Sum.inr k) = some y.val := by rw [Dc.valV_kvs pat'.2.1, hy]; rfl
            rw [Dc.sub_tab hy] at ps
            exact .inr ⟨_, rfl, _, rfl, a, y.val, rfl, (by rw [← hv]; exact .inl ⟨_, Sum.inr k, pat'.1, rfl, rfl⟩), y, _, rfl, rfl, Dc.AtL_mem pat'.2.2.2 y (Dc.mem_zip_lookup hy).2, ps⟩
    · rintro σ Hi ⟨p, o3, rfl, rfl, pat, ps⟩
      rw [List.drop_length, Dc.sub_nil] at ps
      have := q
      rw [← ps] at this
      exact this
end
end K21

set_option Elab.async false
set_option linter.all false
set_option maxRecDepth 100000
set_option maxHeartbeats 40000000
namespace K21
open PySem L2
section
variable {P : Program} {w : World} {K : PySem.W.Frag} {mg : Str → Option Value} {base : Heap}
theorem scValue : FnScope ["_law_cell_here", "_law_names_here", "_law_one", "_law_some"] ["_law_cell_here", "_law_names_here"] (defScope sValue) := ⟨rfl, rfl, rfl, by decide +kernel, rfl, by decide +kernel, by decide +kernel⟩
theorem ok_Value {f : Addr} {fd : FuncData} (F : Fun K "_law_value" "_law_value" sValue f fd) (T : Txt mg) (DMix : Df P w K mg base "_law_mix" ["_law_cell_here", "_law_k"] 1 spMix) (DLeaf : Df P w K mg base "_law_leaf" ["_law_cell_here", "_law_k"] 2 spLeaf2) : FnOk P w K mg base CX0 3 f fd ["_law_cell_here", "_law_names_here"] spValue := by
  obtain ⟨fMix, dMix, kMix, bMix, mMix, GMix⟩ := DMix.ex
  obtain ⟨fLeaf, dLeaf, kLeaf, bLeaf, mLeaf, GLeaf⟩ := DLeaf.ex
  refine F.ok scValue (fun vs H Q E h => ?_) (fun cdv A outer s H vs Q E hr h => ?_)
  · obtain ⟨c, n, ys, rfl, hn, l6, nd0, q⟩ := h
    rfl
  · obtain ⟨c, n, ys, rfl, hn, l6, nd0, q⟩ := h
    have nd := scValue.nd
    have hu := hu_of hr
    have hrMix : Room 1 _ := hr.mono (by first | decide | omega)
    have hrLeaf : Room 2 _ := hr.mono (by first | decide | omega)
    refine ⟨_, (pss_cons (ps_set (i := 2) nd rfl (Or.inl rfl) (pe_call GLeaf hrLeaf rfl mLeaf kLeaf bLeaf .nil pass0 (pa_cons (pv 0) (pa_cons pe_int pa_nil))))
      (pss_cons (ps_set (i := 3) nd rfl (Or.inl rfl) (pe_lst (pa_cons (pv 2) (pa_cons (pv 2) (pa_cons (pe_lst pa_nil) (pa_cons pe_dnewK (pa_cons (pe_lst (pa_cons (pv 2) (pa_cons (pe_lst pa_nil) pa_nil))) (pa_cons (pe_disp (pps_cons (pe_ix (r := rIxL K) ix_list (pv 1) pe_int (fun _ _ => rfl)) (pv 2) pps_nil) rfl rfl (by simp) (by simp)) (pa_cons (pe_lst (pa_cons (pe_disp (pps_cons (pe_ix (r := rIxL K) ix_list (pv 1) pe_int (fun _ _ => rfl)) (pe_lst (pa_cons (pv 2) pa_nil)) pps_nil) rfl rfl (by simp) (by simp)) (pa_cons (pv 2) pa_nil))) (pa_cons (pe_disp (pps_cons (pe_ix (r := rIxL K) ix_list (pv 1) pe_int (fun _ _ => rfl)) (pe_lst pa_nil) (pps_cons (pe_ix (r := rIxL K) ix_list (pv 1) pe_int (fun _ _ => rfl)) (pv 2) pps_nil)) rfl rfl (by simp) (by simp)) pa_nil))))))))))
      (pss_one (ps_ret (pe_ix (r := rIxL K) ix_list (pv 3) (pe_op op_mod (pe_call GMix hrMix rfl mMix kMix bMix .nil pass0 (pa_cons (pv 0) (pa_cons pe_int pa_nil))) pe_int) (fun _ _ => rfl)))))), ?_⟩
    have get : ∀ j : Nat, j < 6 → ∃ y, atI (ys.map V.str) (j : Int) = some (.str y) ∧ ys[j]? = some y := fun j hj => ⟨ys[j]'(by omega), atI_nat (by rw [List.getElem?_map, List.getElem?_eq_getElem (by omega)]; rfl), List.getElem?_eq_getElem (by omega)⟩
    obtain ⟨y0, a0, g0⟩ := get 0 (by decide)
    obtain ⟨y1, a1, g1⟩ := get 1 (by decide)
    obtain ⟨y2, a2, g2⟩ := get 2 (by decide)
    have n12 : y1 ≠ y2 := fun z => by
      rw [z, ← g2] at g1
      have := (List.getElem?_inj (by omega) nd0).mp g1
      omega
    refine ⟨_, rfl, c, 9, rfl, by decide, fun o H1 lo s1 => ?_⟩
    have lf : Dc.Lf o := by
      rcases lo with ⟨i, rfl⟩ | ⟨x, rfl, hx⟩
      · exact .inl ⟨i, rfl⟩
      · exact .inr ⟨x, rfl, Nat.le_trans (txtB_len hx) (by decide)⟩
    refine ⟨_, rfl, _, rfl, Nat.zero_le _, fun p1 hp1 => ?_⟩
    have t1 := Same.new (o := .lst []) hp1
    have f1 : upd H1 p1 (.lst []) p1 = some (.lst []) := upd_same
    generalize upd H1 p1 (.lst []) = H2 at t1 f1 ⊢
    refine fun p2 hp2 => ?_
    have t2 := Same.new (o := .dK []) hp2
    have f2 : upd H2 p2 (.dK []) p2 = some (.dK []) := upd_same
    generalize upd H2 p2 (.dK []) = H3 at t2 f2 ⊢
    refine ⟨_, rfl, Nat.zero_le _, fun p3 hp3 => ?_⟩
    have t3 := Same.new (o := .lst []) hp3
    have f3 : upd H3 p3 (.lst []) p3 = some (.lst []) := upd_same
    generalize upd H3 p3 (.lst []) = H4 at t3 f3 ⊢
    refine ⟨two_line, fun p4 hp4 => ?_⟩
    have t4 := Same.new (o := .lst [o, .ref p3]) hp4
    have f4 : upd H4 p4 (.lst [o, .ref p3]) p4 = some (.lst [o, .ref p3]) := upd_same
    generalize upd H4 p4 (.lst [o, .ref p3]) = H5 at t4 f4 ⊢
    have s15 : Same H1 H5 := (((t1.trans t2).trans t3).trans t4)
    refine fun p5 hp5 => ?_
    have t5 := Same.new (o := .dK []) hp5
    refine ⟨_, rfl, n, _, _, _, rfl, rfl, SqL.of ((((s1.trans s15).trans t5)) _ _ hn), a0, _, rfl, upd_same, [(Sum.inr y0, o)], rfl, by simp, ?_⟩
    have m5 : mergeK [] [((Sum.inr y0 : Key), o)] = [(Sum.inr y0, o)] := rfl
    rw [m5]
    have t5' : Same H5 (upd (upd H5 p5 (.dK [])) p5 (.dK [(Sum.inr y0, o)])) := t5.put hp5
    have f5 : upd (upd H5 p5 (.dK [])) p5 (.dK [(Sum.inr y0, o)]) p5 = some (.dK [(Sum.inr y0, o)]) := upd_same
    generalize upd (upd H5 p5 (.dK [])) p5 (.dK [(Sum.inr y0, o)]) = H6 at t5' f5 ⊢
    refine fun p6 hp6 => ?_
    have t6 := Same.new (o := .dK []) hp6
    refine ⟨_, rfl, n, _, _, _, rfl, rfl, SqL.of ((((s1.trans s15).trans t5').trans t6) _ _ hn), a1, _, rfl, one_line, fun p7 hp7 => ?_⟩
    have f6 : upd H6 p6 (.dK []) p6 = some (.dK []) := upd_same
    generalize upd H6 p6 (.dK []) = H7 at t6 f6 hp7 ⊢
    have t7 := Same.new (o := .lst [o]) hp7
    have f7 : upd H7 p7 (.lst [o]) p7 = some (.lst [o]) := upd_same
    refine ⟨t7 _ _ f6, [(Sum.inr y1, .ref p7)], rfl, by simp, ?_⟩
    have m6 : mergeK [] [((Sum.inr y1 : Key), V.ref p7)] = [(Sum.inr y1, .ref p7)] := rfl
    rw [m6]
    have n67 : p7 ≠ p6 := Ne.symm (ne_of_none f6 hp7)
    have t67 : Same H6 (upd (upd H7 p7 (.lst [o])) p6 (.dK [(Sum.inr y1, .ref p7)])) := (t6.trans t7).put hp6
    have f6' : upd (upd H7 p7 (.lst [o])) p6 (.dK [(Sum.inr y1, .ref p7)]) p6 = some (.dK [(Sum.inr y1, .ref p7)]) := upd_same
    have f7' : upd (upd H7 p7 (.lst [o])) p6 (.dK [(Sum.inr y1, .ref p7)]) p7 = some (.lst [o]) := by rw [upd_ne n67]; exact f7
    generalize upd (upd H7 p7 (.lst [o])) p6 (.dK [(Sum.inr y1, .ref p7)]) = H8 at t67 f6' f7' ⊢
    refine ⟨_, rfl, two_line, fun p8 hp8 => ?_⟩
    have t8 := Same.new (o := .lst [.ref p6, o]) hp8
    have f8 : upd H8 p8 (.lst [.ref p6, o]) p8 = some (.lst [.ref p6, o]) := upd_same
    generalize upd H8 p8 (.lst [.ref p6, o]) = H9 at t8 f8 ⊢
    have s09 : Same H H9 := (((s1.trans s15).trans t5').trans t67).trans t8
    refine fun p9 hp9 => ?_
    have t9 := Same.new (o := .dK []) hp9
    have f9 : upd H9 p9 (.dK []) p9 = some (.dK []) := upd_same
    generalize upd H9 p9 (.dK []) = HA at t9 f9 ⊢
    refine ⟨_, rfl, n, _, _, _, rfl, rfl, SqL.of ((s09.trans t9) _ _ hn), a1, Nat.zero_le _, fun pA hpA => ?_⟩
    have tA := Same.new (o := .lst []) hpA
    have fA : upd HA pA (.lst []) pA = some (.lst []) := upd_same
    refine ⟨_, rfl, n, _, _, _, rfl, rfl, SqL.of (((s09.trans t9).trans tA) _ _ hn), a2, _, rfl, tA _ _ f9, [(Sum.inr y1, .ref pA), (Sum.inr y2, o)], rfl, by simp, ?_⟩
    have m9 : mergeK [] [((Sum.inr y1 : Key), V.ref pA), (Sum.inr y2, o)] = [(Sum.inr y1, .ref pA), (Sum.inr y2, o)] := mergeK_nodup _ _ (by
      have : (Sum.inr y1 : Key) ≠ Sum.inr y2 := fun z => n12 (Sum.inr.inj z)
      simpa using this)
    rw [m9]
    have n9A : pA ≠ p9 := Ne.symm (ne_of_none f9 hpA)
    have t9A : Same H9 (upd (upd HA pA (.lst [])) p9 (.dK [(Sum.inr y1, .ref pA), (Sum.inr y2, o)])) := (t9.trans tA).put hp9
    have f9' : upd (upd HA pA (.lst [])) p9 (.dK [(Sum.inr y1, .ref pA), (Sum.inr y2, o)]) p9 = some (.dK [(Sum.inr y1, .ref pA), (Sum.inr y2, o)]) := upd_same
    have fA' : upd (upd HA pA (.lst [])) p9 (.dK [(Sum.inr y1, .ref pA), (Sum.inr y2, o)]) pA = some (.lst []) := by rw [upd_ne n9A]; exact fA
    generalize upd (upd HA pA (.lst [])) p9 (.dK [(Sum.inr y1, .ref pA), (Sum.inr y2, o)]) = HB at t9A f9' fA' ⊢
    refine ⟨le_line (show 8 ≤ 1000 by decide), fun L hL => ?_⟩
    have tL := Same.new (o := .lst [o, o, .ref p1, .ref p2, .ref p4, .ref p5, .ref p8, .ref p9]) hL
    have fL : upd HB L (.lst [o, o, .ref p1, .ref p2, .ref p4, .ref p5, .ref p8, .ref p9]) L = some (.lst [o, o, .ref p1, .ref p2, .ref p4, .ref p5, .ref p8, .ref p9]) := upd_same
    generalize upd HB L (.lst [o, o, .ref p1, .ref p2, .ref p4, .ref p5, .ref p8, .ref p9]) = HC at tL fL ⊢
    refine ⟨_, rfl, _, rfl, c, 8, rfl, by decide, fun r _ _ => ⟨_, _, rfl, rfl, (by show (0 : Int) < _; decide), ?_⟩⟩
    have mb := mod_b r (n := 8) (by decide)
    obtain ⟨v, hv, mv⟩ := pick_mem (xs := [o, o, V.ref p1, .ref p2, .ref p4, .ref p5, .ref p8, .ref p9]) mb.1 mb.2
    refine ⟨L, _, _, _, rfl, rfl, SqL.of fL, hv, ?_⟩
    have sBC := t9A.trans tL
    have s9C := sBC
    have s8C := t8.trans s9C
    have s6C := t67.trans s8C
    have s5C := t5'.trans s6C
    have s4C := t4.trans s5C
    have s3C := t3.trans s4C
    have s2C := t2.trans s3C
    have s0C := s09.trans s9C
    simp only [List.mem_cons, List.not_mem_nil, or_false] at mv
    have k : ∀ (v : Dc), v.At HC → v.size ≤ 10 → Q v.val HC := fun v h1 h2 => q v HC s0C h1 h2
    rcases mv with rfl | rfl | rfl | rfl | rfl | rfl | rfl | rfl
    · exact k (.leaf v) lf (by simp [Dc.size])
    · exact k (.leaf v) lf (by simp [Dc.size])
    · exact k (.row p1 []) (by simp only [Dc.At, Dc.AtL]; exact ⟨.inl (s2C _ _ f1), trivial⟩) (by simp [Dc.size, Dc.sizeL])
    · exact k (.tab p2 [] []) (by simp only [Dc.At, Dc.AtL]; exact ⟨.inl (s3C _ _ f2), rfl, .nil, trivial⟩) (by simp [Dc.size, Dc.sizeL])
    · exact k (.row p4 [.leaf o, .row p3 []]) (by simp only [Dc.At, Dc.AtL]; exact ⟨.inl (s5C _ _ f4), lf, ⟨.inl (s4C _ _ f3), trivial⟩, trivial⟩) (by simp [Dc.size, Dc.sizeL])
    · exact k (.tab p5 [y0] [.leaf o]) (by simp only [Dc.At, Dc.AtL]; exact ⟨.inl (s6C _ _ f5), rfl, by simp, lf, trivial⟩) (by simp [Dc.size, Dc.sizeL])
    · exact k (.row p8 [.tab p6 [y1] [.row p7 [.leaf o]], .leaf o]) (by simp only [Dc.At, Dc.AtL]; exact ⟨.inl (s9C _ _ f8), ⟨.inl (s8C _ _ f6'), rfl, by simp, ⟨.inl (s8C _ _ f7'), lf, trivial⟩, trivial⟩, lf, trivial⟩) (by simp [Dc.size, Dc.sizeL])
    · exact k (.tab p9 [y1, y2] [.row pA [], .leaf o]) (by simp only [Dc.At, Dc.AtL]; exact ⟨.inl (tL _ _ f9'), rfl, by simpa using n12, ⟨.inl (tL _ _ fA'), trivial⟩, lf, trivial⟩) (by simp [Dc.size, Dc.sizeL])
end
end K21

set_option Elab.async false
set_option linter.all false
set_option maxRecDepth 100000
set_option maxHeartbeats 40000000
namespace K21
open PySem L2
section
variable {P : Program} {w : World} {K : PySem.W.Frag} {mg : Str → Option Value} {base : Heap}
theorem scPut : FnScope ["_law_doc_here", "_law_path", "_law_value_here", "_law_told", "_law_holder"] ["_law_doc_here", "_law_path", "_law_value_here"] (defScope sPut) := ⟨rfl, rfl, rfl, by decide +kernel, rfl, by decide +kernel, by decide +kernel⟩
theorem ok_Put {f : Addr} {fd : FuncData} (F : Fun K "_law_put" "_law_put" sPut f fd) (T : Txt mg) (DCopy : Df P w K mg base "_law_copy" ["_law_doc_here"] 50 (spCopy 50)) (DAt : Df P w K mg base "_law_at" ["_law_doc_here", "_law_path"] 1 spFound) (DStands : Df P w K mg base "_law_stands" ["_law_doc_here", "_law_path"] 1 spStands) : FnOk P w K mg base CX0 52 f fd ["_law_doc_here", "_law_path", "_law_value_here"] spLPut := by
  obtain ⟨fCopy, dCopy, kCopy, bCopy, mCopy, GCopy⟩ := DCopy.ex
  obtain ⟨fAt, dAt, kAt, bAt, mAt, GAt⟩ := DAt.ex
  obtain ⟨fStands, dStands, kStands, bStands, mStands, GStands⟩ := DStands.ex
  refine F.ok scPut (fun vs H Q E h => ?_) (fun cdv A outer s H vs Q E hr h => ?_)
  · obtain ⟨d, v, t, xs, rfl, hat, hsz, hvt, hvz, ht, hx, q, qn⟩ := h
    rfl
  · obtain ⟨d, v, t, xs, rfl, hat, hsz, hvt, hvz, ht, hx, q, qn⟩ := h
    have nd := scPut.nd
    have hu := hu_of hr
    have hrCopy : Room 50 _ := hr.mono (by first | decide | omega)
    have hrAt : Room 1 _ := hr.mono (by first | decide | omega)
    have hrStands : Room 1 _ := hr.mono (by first | decide | omega)
    refine ⟨_, (pss_cons (ps_if (PW.pt (pw_or (pt_cmpR (op_eqT (Room.units0 hr)) (pv 1) (pe_tup pa_nil) (nomark _)) (pw_or1 (pt_not (pt_val (pe_call GStands hrStands rfl mStands kStands bStands .nil pass0 (pa_cons (pv 0) (pa_cons (pe_slice sl_tupE (pv 1) po_none (po_some (pe_un un_neg pe_int))) pa_nil)))))))) (pss_one (ps_ret pe_non)) pss_nil)
      (pss_cons (ps_set (i := 3) nd rfl (Or.inl rfl) (pe_call GCopy hrCopy rfl mCopy kCopy bCopy .nil pass0 (pa_cons (pv 0) pa_nil)))
      (pss_cons (ps_set (i := 4) nd rfl (Or.inl rfl) (pe_call GAt hrAt rfl mAt kAt bAt .nil pass0 (pa_cons (pv 3) (pa_cons (pe_slice sl_tupE (pv 1) po_none (po_some (pe_un un_neg pe_int))) pa_nil))))
      (pss_cons (ps_if (pt_val (pe_callB call_isiN rfl T.isinstance b_isinstance (pa_cons (pe_ix (r := rIxT K) ix_tup (pv 1) (pe_un un_neg pe_int) (fun _ _ => rfl)) (pa_cons (pe_bltn (v := .ty "str") rfl T.str b_str rfl) pa_nil)))) (pss_cons (ps_if (PW.pt (pw_or (pt_not (pt_val (pe_callB call_isiN rfl T.isinstance b_isinstance (pa_cons (pv 4) (pa_cons (pe_bltn (v := .ty "dict") rfl T.dict b_dict rfl) pa_nil))))) (pw_or1 (pt_cmp (pc_din hu (pe_ix (r := rIxT K) ix_tup (pv 1) (pe_un un_neg pe_int) (fun _ _ => rfl)) (pv 4)))))) (pss_one (ps_ret pe_non)) pss_nil)
      (pss_one (ps_dput hu (pv 4) (pe_ix (r := rIxT K) ix_tup (pv 1) (pe_un un_neg pe_int) (fun _ _ => rfl)) (pe_call GCopy hrCopy rfl mCopy kCopy bCopy .nil pass0 (pa_cons (pv 2) pa_nil)) rfl))) (pss_one (ps_if (PW.pt (pw_or (pt_not (pt_val (pe_callB call_isiN rfl T.isinstance b_isinstance (pa_cons (pv 4) (pa_cons (pe_bltn (v := .ty "list") rfl T.list b_list rfl) pa_nil))))) (pw_or1 (pt_cmpR op_gt (pe_ix (r := rIxT K) ix_tup (pv 1) (pe_un un_neg pe_int) (fun _ _ => rfl)) (pe_callB call_len_seq rfl T.len PySem.boot_len (pa_cons (pv 4) pa_nil)) (nomark _))))) (pss_one (ps_ret pe_non)) (pss_one (ps_expr (pe_bm PySem.F.plainAttrs_list PySem.F.slot_list_insert PySem.F.type_list_insert mt_insert (pv 4) (pa_cons (pe_ix (r := rIxT K) ix_tup (pv 1) (pe_un un_neg pe_int) (fun _ _ => rfl)) (pa_cons (pe_call GCopy hrCopy rfl mCopy kCopy bCopy .nil pass0 (pa_cons (pv 2) pa_nil)) pa_nil))))))))
      (pss_one (ps_ret (pe_tup (pa_cons (pv 3) pa_nil)))))))), ?_⟩
    have fx : ∀ z ∈ xs, flatV z = true := fun z hz => (hx z hz).flat
    refine ⟨_, rfl, Nat.zero_le _, fun e0 he => ?_⟩
    have se := Same.new (o := .tup []) he
    have fe : upd H e0 (.tup []) e0 = some (.tup []) := upd_same
    generalize upd H e0 (.tup []) = HA at se fe ⊢
    refine ⟨t, e0, xs, [], rfl, rfl, SqT.of (se _ _ ht), SqT.of fe, fx, fun z hz => (nomatch hz), _, rfl, ?_⟩
    by_cases hxs : xs = []
    · refine iteBT (by rw [eqTs_nil]; simp [hxs]) (iteT (qn (fun us lv e h _ => ?_) _ se))
      rw [hxs] at h
      simp at h
    obtain ⟨us, lv, rfl⟩ : ∃ us lv, xs = us ++ [lv] := ⟨xs.dropLast, xs.getLast hxs, (List.dropLast_concat_getLast hxs).symm⟩
    refine iteBF (by rw [eqTs_nil]; simp) ?_
    refine ⟨_, rfl, _, rfl, _, rfl, _, rfl, t, _, rfl, se _ _ ht, fun p1 HB s1 hp1 => ?_⟩
    rw [cutV_init] at hp1
    have sb := se.trans s1
    have hxu : ∀ z ∈ us, Dc.StepV z := fun z hz => hx z (List.mem_append_left _ hz)
    refine ⟨d, p1, us, rfl, Dc.at_same sb hat, hp1, hxu, _, rfl, ?_⟩
    cases hs : d.sub us with
    | none =>
      refine iteBT rfl (qn (fun us' lv' e h h' => ?_) _ sb)
      obtain ⟨rfl, rfl⟩ := snoc_inj h
      rw [hs] at h'
      cases h'
    | some e =>
    refine iteBF rfl ?_
    refine ⟨_, rfl, d, rfl, Dc.at_same sb hat, Nat.le_trans (Dc.deep_size d) (by omega), by omega, fun t0 H1 F0' lk => ?_⟩
    have F0 : Fresh H H1 t0 := F0'.down sb
    have wd := Dc.at_wf d hat
    have wt := Dc.at_wf t0 F0.at_
    have qd := Dc.like_eqv d t0 lk
    obtain ⟨e', hs', qe⟩ := Dc.Eqv.sub wd wt qd hs
    have we := Dc.at_wf e ((Dc.PartOf.sub hs).at_ hat)
    have we' := Dc.at_wf e' ((Dc.PartOf.sub hs').at_ F0.at_)
    have ht1 := F0.same _ _ ht
    refine ⟨_, rfl, _, rfl, _, rfl, _, rfl, t, _, rfl, ht1, fun p2 H2 s2 hp2 => ?_⟩
    rw [cutV_init] at hp2
    have F2 := F0.up s2
    have ht2 := s2 _ _ ht1
    refine ⟨t0, p2, us, e', rfl, F2.at_, hp2, hxu, hs', ?_⟩
    have P' := Dc.PartOf.sub hs'
    have vat2 := Dc.at_same F2.same hvt
    have no : e'.room lv = false → Q .non H2 := fun h => qn (fun us' lv' e2 h1 h2 => by
      obtain ⟨rfl, rfl⟩ := snoc_inj h1
      rw [hs] at h2
      cases h2
      rw [qe.room]
      exact h) _ F2.same
    have eat0 := P'.at_ F2.at_
    rcases hx lv (by simp) with ⟨i0, rfl⟩ | ⟨k, rfl, nk⟩
    · refine ⟨_, rfl, _, rfl, t, _, _, _, rfl, rfl, SqT.of ht2, atI_last us _, _, "str", "int", rfl, rfl, .int _, _, rfl, iteF ?_⟩
      cases e' with
      | leaf w' => exact ⟨_, rfl, _, "list", Dc.tyS (.leaf w'), rfl, rfl, Dc.tyN eat0, _, rfl, iteBT (by cases w' <;> rfl) (iteT (no rfl))⟩
      | tab b ks xs => exact ⟨_, rfl, _, "list", _, rfl, rfl, Dc.tyN eat0, _, rfl, iteBT rfl (iteT (no rfl))⟩
      | row b xs =>
        refine ⟨_, rfl, _, "list", _, rfl, rfl, Dc.tyN eat0, _, rfl, iteBF rfl ?_⟩
        simp only [Dc.At] at eat0
        refine ⟨_, rfl, _, rfl, t, _, _, _, rfl, rfl, SqT.of ht2, atI_last us _, _, rfl, b, _, rfl, .inl (.inl eat0.1), _, _, rfl, rfl, _, rfl, ite2 (fun h => ?_) (fun h => ?_)⟩
        · have h := of_decide_eq_true h
          rw [List.length_map] at h
          refine no ?_
          simp only [Dc.room, Bool.and_eq_false_iff, decide_eq_false_iff_not]
          right
          omega
        · have hi : i0 ≤ xs.length := by
            refine Nat.le_of_not_lt fun z => h (decide_eq_true ?_)
            rw [List.length_map]
            omega
          obtain ⟨i, ei⟩ : ∃ i, i = i0 := ⟨_, rfl⟩
          rw [← ei] at hi
          have hr' : (Dc.row b xs).room (.int (i : Int)) = true := by
            simp only [Dc.room, Bool.and_eq_true, decide_eq_true_eq]
            omega
          subst ei
          obtain ⟨lv, elv⟩ : ∃ lv : V, lv = .int (i : Int) := ⟨_, rfl⟩
          obtain ⟨e', ee⟩ : ∃ e', e' = Dc.row b xs := ⟨_, rfl⟩
          have hr0 : e.room (.int (i : Int)) = true := by rw [qe.room]; exact hr'
          have q := q us _ e rfl hs hr0
          have fin : ∀ (v' : Dc) (H3 H4 : Hp), Fresh H2 H3 v' → Dc.like v v' → (Dc.row b xs).val = .ref b → b ∈ (Dc.row b xs).addrs → ((Dc.row b xs).insN (V.int (i : Int)) v').At H4 → (∀ a o, a ≠ b → H3 a = some o → H4 a = some o) → (∀ o u, H4 b ≠ some (.frz o u)) → ∀ g, H4 g = none → Q (.ref g) (upd H4 g (.tup [t0.val])) := fun v' H3 H4 Fv lv' ev bm nat kp ob g hg => by
            have F3 := F2.up Fv.same
            have pm := Dc.insN_addrs (v := v') hr'
            have dj : ∀ c ∈ v'.addrs, c ∉ t0.addrs ∧ H c = none := fun c hc => ⟨fun z => Dc.there F2.at_ z (Fv.new c hc), F2.same.free (Fv.new c hc)⟩
            have nde : (Dc.row b xs).addrs.Nodup := by
              obtain ⟨l, r, e1, _⟩ := Dc.setP_addrs (n := (Dc.row b xs)) wt F0.nd hs'
              have := F0.nd
              rw [e1] at this
              exact (List.nodup_append.mp (List.nodup_append.mp this).1).2.1
            have FF := F3.edit (n := (Dc.row b xs).insN (V.int (i : Int)) v') hs' ev bm ((Dc.insN_val ..).trans ev) nat kp (pm.nodup_iff.mpr (List.nodup_append.mpr ⟨nde, Fv.nd, fun x hx' y hy z => (dj y hy).1 (by rw [← z]; exact P'.addrs x hx')⟩))
              (fun c hc => by
                by_cases hcb : c = b
                · rw [hcb]; exact ob
                · rcases List.mem_append.mp (pm.mem_iff.mp hc) with h | h
                  · exact frz_up (Dc.there F3.at_ (P'.addrs c h)) (F3.own c (P'.addrs c h)) fun o => kp c o hcb
                  · exact frz_up (Dc.there Fv.at_ h) (Fv.own c h) fun o => kp c o hcb)
              (fun c hc => by
                rcases List.mem_append.mp (pm.mem_iff.mp hc) with h | h
                · exact .inl h
                · exact .inr (dj c h))
            have vv : (t0.setP us ((Dc.row b xs).insN (V.int (i : Int)) v')).val = t0.val := Dc.setP_val hs' (Dc.insN_val ..)
            exact q g (t0.setP us ((Dc.row b xs).insN (V.int (i : Int)) v')) _ (FF.up (Same.new hg)) (by rw [upd_same, vv]) (Dc.Eqv.setP wd wt qd hs (Dc.Eqv.insN we we' hr0 qe (Dc.like_eqv v v' lv')))
          have eat := P'.at_ F2.at_
          simp only [Dc.At] at eat
          have eb := eat.1.exact (F2.own b (P'.addrs b (by simp [Dc.addrs])))
          have lx := Dc.lenL xs
          have sz0 := P'.size
          simp only [Dc.size] at sz0
          have sz1 := Dc.like_size d t0 lk
          refine ⟨_, rfl, .inl ⟨rfl, _, SqL.of eb⟩, _, rfl, _, rfl, t, _, _, _, rfl, rfl, SqT.of ht2, atI_last us _, _, rfl, v, rfl, vat2, Nat.le_trans (Dc.deep_size v) (by omega), by omega, fun v' H3 Fv lv' => ?_⟩
          refine ⟨b, _, i, _, rfl, rfl, Fv.same _ _ eb, by rw [List.length_map]; exact hi, small1000 (by rw [List.length_map]; omega), ?_⟩
          refine ⟨_, rfl, one_line, fun g hg => fin v' H3 _ Fv lv' rfl (by simp [Dc.addrs]) ?_ (fun a o ha h => by rw [upd_ne ha]; exact h) (fun o u z => by rw [upd_same] at z; cases z) g hg⟩
          simp only [Dc.insN, Int.toNat_natCast, Dc.At]
          have nb : b ∉ Dc.addrsL xs := by
            obtain ⟨l, r, e1, _⟩ := Dc.setP_addrs (n := Dc.row b xs) wt F0.nd hs'
            have := F0.nd
            rw [e1] at this
            have := (List.nodup_append.mp (List.nodup_append.mp this).1).2.1
            simp only [Dc.addrs] at this
            exact (List.nodup_cons.mp this).1
          have xat : Dc.AtL (upd H3 b (.lst ((xs.map Dc.val).take i ++ v'.val :: (xs.map Dc.val).drop i))) xs := Dc.atL_frame xs (fun c hc o h => by rw [upd_ne (fun z => nb (by rw [← z]; exact hc))]; exact Fv.same _ _ h) eat.2
          have vat : v'.At (upd H3 b (.lst ((xs.map Dc.val).take i ++ v'.val :: (xs.map Dc.val).drop i))) := Dc.at_frame v' (fun c hc o h => by rw [upd_ne (fun z => Dc.there F2.at_ (P'.addrs b (by simp [Dc.addrs])) (by rw [← z]; exact Fv.new c hc))]; exact h) Fv.at_
          refine ⟨.inl ?_, (Dc.AtL_append _ _).mpr ?_⟩
          · rw [upd_same, List.map_append, List.map_cons, List.map_take, List.map_drop]
          · have h2 := (Dc.AtL_append (xs.take i) (xs.drop i)).mp (by rw [List.take_append_drop]; exact xat)
            refine ⟨h2.1, ?_⟩
            simp only [Dc.AtL]
            exact ⟨vat, h2.2⟩
    · refine ⟨_, rfl, _, rfl, t, _, _, _, rfl, rfl, SqT.of ht2, atI_last us _, _, "str", "str", rfl, rfl, .str _, _, rfl, iteT ?_⟩
      cases e' with
      | leaf w' => exact ⟨_, rfl, _, "dict", Dc.tyS (.leaf w'), rfl, rfl, Dc.tyN eat0, _, rfl, iteBT (by cases w' <;> rfl) (iteT (no rfl))⟩
      | row b xs => exact ⟨_, rfl, _, "dict", _, rfl, rfl, Dc.tyN eat0, _, rfl, iteBT rfl (iteT (no rfl))⟩
      | tab b ks xs =>
        refine ⟨_, rfl, _, "dict", _, rfl, rfl, Dc.tyN eat0, _, rfl, iteBF rfl ?_⟩
        simp only [Dc.At] at eat0
        refine ⟨_, rfl, _, rfl, t, _, _, _, rfl, rfl, SqT.of ht2, atI_last us _, _, rfl, b, _, rfl, .inl ⟨_, Sum.inr k, eat0.1, rfl, rfl⟩, _, rfl, ?_⟩
        rw [Dc.valV_kvs eat0.2.1]
        by_cases hk : k ∈ ks
        · obtain ⟨y, hy, _⟩ := Dc.lookup_of_mem eat0.2.1 hk
          rw [hy]
          exact iteT (no (by simp [Dc.room, hk]))
        · have hy : (ks.zip xs).lookup k = none := by
            cases q2 : (ks.zip xs).lookup k with
            | none => rfl
            | some x => exact absurd (Dc.mem_zip_lookup q2).1 hk
          rw [hy]
          refine iteF ?_
          have hr' : (Dc.tab b ks xs).room (.str k) = true := by simp [Dc.room, hk]
          have hr0 : e.room (.str k) = true := by rw [qe.room]; exact hr'
          have q := q us _ e rfl hs hr0
          have fin : ∀ (v' : Dc) (H3 H4 : Hp), Fresh H2 H3 v' → Dc.like v v' → (Dc.tab b ks xs).val = .ref b → b ∈ (Dc.tab b ks xs).addrs → ((Dc.tab b ks xs).insN (V.str k) v').At H4 → (∀ a o, a ≠ b → H3 a = some o → H4 a = some o) → (∀ o u, H4 b ≠ some (.frz o u)) → ∀ g, H4 g = none → Q (.ref g) (upd H4 g (.tup [t0.val])) := fun v' H3 H4 Fv lv' ev bm nat kp ob g hg => by
            have F3 := F2.up Fv.same
            have pm := Dc.insN_addrs (v := v') hr'
            have dj : ∀ c ∈ v'.addrs, c ∉ t0.addrs ∧ H c = none := fun c hc => ⟨fun z => Dc.there F2.at_ z (Fv.new c hc), F2.same.free (Fv.new c hc)⟩
            have nde : (Dc.tab b ks xs).addrs.Nodup := by
              obtain ⟨l, r, e1, _⟩ := Dc.setP_addrs (n := (Dc.tab b ks xs)) wt F0.nd hs'
              have := F0.nd
              rw [e1] at this
              exact (List.nodup_append.mp (List.nodup_append.mp this).1).2.1
            have FF := F3.edit (n := (Dc.tab b ks xs).insN (V.str k) v') hs' ev bm ((Dc.insN_val ..).trans ev) nat kp (pm.nodup_iff.mpr (List.nodup_append.mpr ⟨nde, Fv.nd, fun x hx' y hy z => (dj y hy).1 (by rw [← z]; exact P'.addrs x hx')⟩))
              (fun c hc => by
                by_cases hcb : c = b
                · rw [hcb]; exact ob
                · rcases List.mem_append.mp (pm.mem_iff.mp hc) with h | h
                  · exact frz_up (Dc.there F3.at_ (P'.addrs c h)) (F3.own c (P'.addrs c h)) fun o => kp c o hcb
                  · exact frz_up (Dc.there Fv.at_ h) (Fv.own c h) fun o => kp c o hcb)
              (fun c hc => by
                rcases List.mem_append.mp (pm.mem_iff.mp hc) with h | h
                · exact .inl h
                · exact .inr (dj c h))
            have vv : (t0.setP us ((Dc.tab b ks xs).insN (V.str k) v')).val = t0.val := Dc.setP_val hs' (Dc.insN_val ..)
            exact q g (t0.setP us ((Dc.tab b ks xs).insN (V.str k) v')) _ (FF.up (Same.new hg)) (by rw [upd_same, vv]) (Dc.Eqv.setP wd wt qd hs (Dc.Eqv.insN we we' hr0 qe (Dc.like_eqv v v' lv')))
          have eat := P'.at_ F2.at_
          simp only [Dc.At] at eat
          have eb := eat.1.exact (F2.own b (P'.addrs b (by simp [Dc.addrs])))
          have lx := Dc.lenL xs
          have sz0 := P'.size
          simp only [Dc.size] at sz0
          have sz1 := Dc.like_size d t0 lk
          refine ⟨_, rfl, v, rfl, vat2, Nat.le_trans (Dc.deep_size v) (by omega), by omega, fun v' H3 Fv lv' => ?_⟩
          refine ⟨_, rfl, _, rfl, _, rfl, t, _, _, _, rfl, rfl, SqT.of (Fv.same _ _ ht2), atI_last us _, b, _, rfl, DPut.k (k := Sum.inr k) (Fv.same _ _ eb) (small1000 (by rw [Dc.kvs_len eat.2.1]; omega)), ?_⟩
          have nv : valV (Dc.kvs ks xs) (Sum.inr k) = none := by
            rw [Dc.valV_kvs eat.2.1]
            cases q2 : (ks.zip xs).lookup k with
            | none => rfl
            | some x => exact absurd (Dc.mem_zip_lookup q2).1 hk
          rw [putK_new _ nv]
          refine ⟨_, rfl, one_line, fun g hg => fin v' H3 _ Fv lv' rfl (by simp [Dc.addrs]) ?_ (fun a o ha h => by rw [upd_ne ha]; exact h) (fun o u z => by rw [upd_same] at z; cases z) g hg⟩
          simp only [Dc.insN, Dc.At]
          have nb : b ∉ Dc.addrsL xs := by
            obtain ⟨l, r, e1, _⟩ := Dc.setP_addrs (n := Dc.tab b ks xs) wt F0.nd hs'
            have := F0.nd
            rw [e1] at this
            have := (List.nodup_append.mp (List.nodup_append.mp this).1).2.1
            simp only [Dc.addrs] at this
            exact (List.nodup_cons.mp this).1
          have xat : Dc.AtL (upd H3 b (.dK (Dc.kvs ks xs ++ [(Sum.inr k, v'.val)]))) xs := Dc.atL_frame xs (fun c hc o h => by rw [upd_ne (fun z => nb (by rw [← z]; exact hc))]; exact Fv.same _ _ h) eat.2.2.2
          have vat : v'.At (upd H3 b (.dK (Dc.kvs ks xs ++ [(Sum.inr k, v'.val)]))) := Dc.at_frame v' (fun c hc o h => by rw [upd_ne (fun z => Dc.there F2.at_ (P'.addrs b (by simp [Dc.addrs])) (by rw [← z]; exact Fv.new c hc))]; exact h) Fv.at_
          refine ⟨.inl ?_, by simp [eat.2.1], nd_snoc eat.2.2.1 hk, (Dc.AtL_append _ _).mpr ⟨xat, by simp only [Dc.AtL]; exact ⟨vat, trivial⟩⟩⟩
          rw [upd_same, Dc.kvs_snoc k v' eat.2.1]
end
end K21

set_option Elab.async false
set_option linter.all false
set_option maxRecDepth 100000
set_option maxHeartbeats 40000000
namespace K21
open PySem L2
section
variable {P : Program} {w : World} {K : PySem.W.Frag} {mg : Str → Option Value} {base : Heap}
theorem scNoPart : FnScope ["_law_e", "_law_some"] ["_law_e"] (defScope sNoPart) := ⟨rfl, rfl, rfl, by decide +kernel, rfl, by decide +kernel, by decide +kernel⟩
theorem ok_NoPart {C cNoRow cNoFit cNoPatch cClash cNoText cNoDeed : Addr} {f : Addr} {fd : FuncData} (F : Fun K "_law_no_part" "_law_no_part" sNoPart f fd) (T : Txt mg) (kitX : XKit K C) (mXNoPart : mg "NoPart" = some (.ref C)) (mXNoRow : mg "NoRow" = some (.ref cNoRow)) (mXNoFit : mg "NoFit" = some (.ref cNoFit)) (mXNoPatch : mg "NoPatch" = some (.ref cNoPatch)) (mXClash : mg "Clash" = some (.ref cClash)) (mXNoText : mg "NoText" = some (.ref cNoText)) (mXNoDeed : mg "NoDeed" = some (.ref cNoDeed)) (oNoRow : PySem.W.kitOne K (.ref C) (.ref cNoRow) = some false) (oNoFit : PySem.W.kitOne K (.ref C) (.ref cNoFit) = some false) (oNoPatch : PySem.W.kitOne K (.ref C) (.ref cNoPatch) = some false) (oClash : PySem.W.kitOne K (.ref C) (.ref cClash) = some false) (oNoText : PySem.W.kitOne K (.ref C) (.ref cNoText) = some false) (oNoDeed : PySem.W.kitOne K (.ref C) (.ref cNoDeed) = some false) (oNoPart : PySem.W.kitOne K (.ref C) (.ref C) = some true) (oVE : PySem.W.kitOne K (.ref C) (.type "ValueError") = some true) : FnOkN P w K mg base CX0 1 f fd ["_law_e"] (spNoPart C) := by
  refine F.okN scNoPart (fun vs H Q E h => ?_) (fun cdv A outer s H vs Q E hr h => ?_)
  · obtain ⟨ea, rfl, hea, q⟩ := h
    rfl
  · obtain ⟨ea, rfl, hea, q⟩ := h
    have nd := scNoPart.nd
    refine ⟨_, (pss_cons (ps_set (i := 1) nd rfl (Or.inl rfl) (pe_lst (pa_cons (pe_callB (call_isiE kitX : CallR _ _ (rIsiE K C)) rfl T.isinstance b_isinstance (pa_cons (pv 0) (pa_cons (pe_glob (v := .ref cNoRow) rfl mXNoRow rfl) pa_nil))) (pa_cons (pe_callB (call_isiE kitX : CallR _ _ (rIsiE K C)) rfl T.isinstance b_isinstance (pa_cons (pv 0) (pa_cons (pe_glob (v := .ref cNoFit) rfl mXNoFit rfl) pa_nil))) (pa_cons (pe_callB (call_isiE kitX : CallR _ _ (rIsiE K C)) rfl T.isinstance b_isinstance (pa_cons (pv 0) (pa_cons (pe_glob (v := .ref cNoPatch) rfl mXNoPatch rfl) pa_nil))) (pa_cons (pe_callB (call_isiE kitX : CallR _ _ (rIsiE K C)) rfl T.isinstance b_isinstance (pa_cons (pv 0) (pa_cons (pe_glob (v := .ref cClash) rfl mXClash rfl) pa_nil))) pa_nil))))))
      (pss_cons (ps_set (i := 1) nd rfl (Or.inl rfl) (pe_op op_cat (pv 1) (pe_lst (pa_cons (pe_callB (call_isiE kitX : CallR _ _ (rIsiE K C)) rfl T.isinstance b_isinstance (pa_cons (pv 0) (pa_cons (pe_glob (v := .ref cNoText) rfl mXNoText rfl) pa_nil))) (pa_cons (pe_callB (call_isiE kitX : CallR _ _ (rIsiE K C)) rfl T.isinstance b_isinstance (pa_cons (pv 0) (pa_cons (pe_glob (v := .ref cNoDeed) rfl mXNoDeed rfl) pa_nil))) pa_nil)))))
      (pss_one (ps_ret (pe_and (pe_callB (call_isiE kitX : CallR _ _ (rIsiE K C)) rfl T.isinstance b_isinstance (pa_cons (pv 0) (pa_cons (pe_glob (v := .ref C) rfl mXNoPart rfl) pa_nil))) (pe_and (pe_callB (call_isiE kitX : CallR _ _ (rIsiE K C)) rfl T.isinstance b_isinstance (pa_cons (pv 0) (pa_cons (pe_bltn (v := .ty "ValueError") rfl T.ValueError b_ValueError rfl) pa_nil))) (pe_one (pe_cmpR (op_notIn_seq : OpR _ _ (rIn K true)) pe_bl (pv 1) rfl)))))))), ?_⟩
    refine ⟨_, rfl, ea, _, _, _, rfl, hea, fun _ z => z, oNoRow, _, rfl, ea, _, _, _, rfl, hea, fun _ z => z, oNoFit, _, rfl, ea, _, _, _, rfl, hea, fun _ z => z, oNoPatch, _, rfl, ea, _, _, _, rfl, hea, fun _ z => z, oClash, le_line (show 4 ≤ 1000 by decide), fun l1 h1 => ?_⟩
    have t1 := Same.new (o := .lst [.bl false, .bl false, .bl false, .bl false]) h1
    have he1 := t1 _ _ hea
    refine ⟨_, rfl, _, rfl, ea, _, _, _, rfl, he1, fun _ z => z, oNoText, _, rfl, ea, _, _, _, rfl, he1, fun _ z => z, oNoDeed, two_line, fun l2 h2 => ?_⟩
    have t2 := Same.new (o := .lst [.bl false, .bl false]) h2
    refine ⟨l1, l2, _, _, rfl, rfl, t2 _ _ upd_same, upd_same, le_line (show 4 + 2 ≤ 1000 by decide), fun l3 h3 => ?_⟩
    have t3 := Same.new (o := .lst ([.bl false, .bl false, .bl false, .bl false] ++ [.bl false, .bl false])) h3
    have he3 := t3 _ _ (t2 _ _ he1)
    refine ⟨_, rfl, ea, _, _, _, rfl, he3, fun _ z => z, oNoPart, _, rfl, iteT ⟨_, rfl, ea, _, _, _, rfl, he3, fun _ z => z, oVE, _, rfl, iteT ⟨_, rfl, l3, _, rfl, .inl (SqL.of upd_same), rfl, rfl, ?_⟩⟩⟩
    exact q _ ((t1.trans t2).trans t3)
end
end K21

set_option Elab.async false
set_option linter.all false
set_option maxRecDepth 100000
set_option maxHeartbeats 40000000
namespace K21
open PySem L2
section
variable {P : Program} {w : World} {K : PySem.W.Frag} {mg : Str → Option Value} {base : Heap}
theorem scMore : FnScope ["_law_doc_here", "_law_path", "_law_names_here", "_law_cell_here", "_law_part_here", "_law_many", "_law_number", "_law_name", "_law_far", "_law_step"] ["_law_doc_here", "_law_path", "_law_names_here", "_law_cell_here"] (defScope sMore) := ⟨rfl, rfl, rfl, by decide +kernel, rfl, by decide +kernel, by decide +kernel⟩
theorem ok_More {f : Addr} {fd : FuncData} (F : Fun K "_law_more" "_law_more" sMore f fd) (T : Txt mg) (DMix : Df P w K mg base "_law_mix" ["_law_cell_here", "_law_k"] 1 spMix) (DAt : Df P w K mg base "_law_at" ["_law_doc_here", "_law_path"] 1 spFound) : FnOk P w K mg base CX0 2 f fd ["_law_doc_here", "_law_path", "_law_names_here", "_law_cell_here"] spMore := by
  obtain ⟨fMix, dMix, kMix, bMix, mMix, GMix⟩ := DMix.ex
  obtain ⟨fAt, dAt, kAt, bAt, mAt, GAt⟩ := DAt.ex
  refine F.ok scMore (fun vs H Q E h => ?_) (fun cdv A outer s H vs Q E hr h => ?_)
  · obtain ⟨d, t, n, xs, ys, c, e, rfl, hat, hsz, ht, hx, hxl, hs, hn, l6, ny, q⟩ := h
    rfl
  · obtain ⟨d, t, n, xs, ys, c, e, rfl, hat, hsz, ht, hx, hxl, hs, hn, l6, ny, q⟩ := h
    have nd := scMore.nd
    have hu := hu_of hr
    have hrMix : Room 1 _ := hr.mono (by first | decide | omega)
    have hrAt : Room 1 _ := hr.mono (by first | decide | omega)
    refine ⟨_, (pss_cons (ps_set (i := 4) nd rfl (Or.inl rfl) (pe_call GAt hrAt rfl mAt kAt bAt .nil pass0 (pa_cons (pv 0) (pa_cons (pv 1) pa_nil))))
      (pss_cons (ps_set (i := 5) nd rfl (Or.inl rfl) pe_int)
      (pss_cons (ps_if (pt_val (pe_callB call_isiN rfl T.isinstance b_isinstance (pa_cons (pv 4) (pa_cons (pe_bltn (v := .ty "list") rfl T.list b_list rfl) pa_nil)))) (pss_one (ps_set (i := 5) nd rfl (Or.inl rfl) (pe_callB call_len_seq rfl T.len PySem.boot_len (pa_cons (pv 4) pa_nil)))) pss_nil)
      (pss_cons (ps_set (i := 6) nd rfl (Or.inl rfl) (pe_call GMix hrMix rfl mMix kMix bMix .nil pass0 (pa_cons (pv 3) (pa_cons pe_int pa_nil))))
      (pss_cons (ps_set (i := 7) nd rfl (Or.inl rfl) (pe_ix (r := rIxL K) ix_list (pv 2) (pe_op op_mod (pv 6) pe_int) (fun _ _ => rfl)))
      (pss_cons (ps_set (i := 8) nd rfl (Or.inl rfl) (pe_ix (r := rIxL K) ix_list (pe_lst (pa_cons pe_int (pa_cons (pe_op op_add (pv 5) pe_int) (pa_cons (pe_op op_pow pe_int pe_int) (pa_cons (pe_op op_sub (pe_op op_pow pe_int pe_int) pe_int) pa_nil))))) (pe_op op_mod (pe_op op_fdiv (pv 6) pe_int) pe_int) (fun _ _ => rfl)))
      (pss_cons (ps_set (i := 9) nd rfl (Or.inl rfl) (pe_ix (r := rIxL K) ix_list (pe_lst (pa_cons (pv 5) (pa_cons (pe_op op_add (pv 5) pe_int) (pa_cons (pe_callB (call_max2 rfl) rfl T.max b_max (pa_cons pe_int (pa_cons (pe_op op_sub (pv 5) pe_int) pa_nil))) (pa_cons (pv 7) (pa_cons (pv 7) (pa_cons (pe_op op_mod (pe_op op_fdiv (pv 6) pe_int) pe_int) (pa_cons (pv 8) pa_nil)))))))) (pe_op op_mod (pe_call GMix hrMix rfl mMix kMix bMix .nil pass0 (pa_cons (pv 3) (pa_cons pe_int pa_nil))) pe_int) (fun _ _ => rfl)))
      (pss_one (ps_ret (pe_op op_catE (pv 1) (pe_tup (pa_cons (pv 9) pa_nil)))))))))))), ?_⟩
    have P := Dc.PartOf.sub hs
    refine ⟨_, rfl, _, rfl, d, t, xs, e, rfl, hat, ht, hx, hs, ?_⟩
    have eat := P.at_ hat
    have sze := P.size
    cases e with
    | leaf v =>
      refine ⟨_, rfl, _, "list", Dc.tyS (.leaf v), rfl, rfl, Dc.tyN eat, _, rfl, iteBF (by cases v <;> rfl) ?_⟩
      have m6 := fun r : Int => mod_b r (n := 6) (by decide)
      refine ⟨_, rfl, c, 5, rfl, by decide, fun N p5 _ => ?_⟩
      obtain ⟨w, hw, mw⟩ := pick_mem (xs := ys.map V.str) (m6 N).1 (by rw [List.length_map, l6]; exact (m6 N).2)
      obtain ⟨y, hy, rfl⟩ := List.mem_map.mp mw
      refine ⟨_, rfl, _, rfl, _, _, rfl, rfl, (by show (0 : Int) < _; decide), n, _, _, _, rfl, rfl, SqL.of hn, hw, ?_⟩
      refine ⟨_, rfl, _, _, rfl, rfl, _, _, rfl, rfl, ⟨by decide, by decide, by decide⟩, _, _, rfl, rfl, ⟨by decide, by decide, by decide⟩, _, _, rfl, rfl, le_line (show 4 ≤ 1000 by decide), fun l hl => ?_⟩
      have s1 := Same.new (o := .lst [.int 1000, .int ((0 : Int) + 7), .int (10 ^ (30 : Int).toNat), .int (10 ^ (60 : Int).toNat - 1)]) hl
      have m4 := mod_b (N / 6) (n := 4) (by decide)
      obtain ⟨fv, hf, mf⟩ := pick_mem (xs := [V.int 1000, .int ((0 : Int) + 7), .int (10 ^ (30 : Int).toNat), .int (10 ^ (60 : Int).toNat - 1)]) m4.1 m4.2
      refine ⟨_, rfl, _, _, rfl, rfl, ⟨by decide, by decide⟩, _, _, rfl, rfl, (by show (0 : Int) < _; decide), l, _, _, _, rfl, rfl, SqL.of upd_same, hf, ?_⟩
      have fs : Dc.StepV fv := by
        simp only [List.mem_cons, List.not_mem_nil, or_false] at mf
        rcases mf with rfl | rfl | rfl | rfl
        · exact .inl ⟨1000, rfl⟩
        · exact .inl ⟨7, rfl⟩
        · exact .inl ⟨10 ^ 30, congrArg V.int (by decide +kernel)⟩
        · exact .inl ⟨10 ^ 60 - 1, congrArg V.int (by decide +kernel)⟩
      dsimp only [gName]
      generalize upd H l (.lst [.int 1000, .int ((0 : Int) + 7), .int (10 ^ (30 : Int).toNat), .int (10 ^ (60 : Int).toNat - 1)]) = H1 at s1 ⊢
      have m9 := mod_b (N / 6) (n := 9) (by decide)
      obtain ⟨k9, hk9⟩ : ∃ k9 : Nat, N / 6 % 9 = (k9 : Int) := ⟨(N / 6 % 9).toNat, by omega⟩
      obtain ⟨km, hkm⟩ : ∃ km : Nat, (if (0 : Int) - 1 > 0 then (0 : Int) - 1 else 0) = (km : Int) := ⟨0, by split <;> omega⟩
      refine ⟨_, rfl, _, rfl, _, _, rfl, rfl, _, rfl, _, _, rfl, rfl, _, _, rfl, _, rfl, _, rfl, _, rfl, _, _, rfl, rfl, ⟨by decide, by decide⟩, _, _, rfl, rfl, (by show (0 : Int) < _; decide), _, rfl, le_line (show 7 ≤ 1000 by decide), fun l2 hl2 => ?_⟩
      have s2 := Same.new (o := .lst [.int (0 : Int), .int ((0 : Int) + 1), .int (if (0 : Int) - 1 > 0 then (0 : Int) - 1 else 0), .str y, .str y, .int (N / 6 % 9), fv]) hl2
      refine ⟨_, rfl, c, 4, rfl, by decide, fun r7 p7 _ => ⟨_, _, rfl, rfl, (by show (0 : Int) < _; decide), ?_⟩⟩
      have m7 := mod_b r7 (n := 7) (by decide)
      obtain ⟨u, hu, mu⟩ := pick_mem (xs := [.int (0 : Int), .int ((0 : Int) + 1), .int (if (0 : Int) - 1 > 0 then (0 : Int) - 1 else 0), .str y, .str y, .int (N / 6 % 9), fv]) m7.1 m7.2
      refine ⟨l2, _, _, _, rfl, rfl, SqL.of upd_same, hu, ?_⟩
      have su : Dc.StepV u := by
        simp only [List.mem_cons, List.not_mem_nil, or_false] at mu
        rcases mu with rfl | rfl | rfl | rfl | rfl | rfl | rfl
        · exact .inl ⟨0, rfl⟩
        · exact .inl ⟨1, rfl⟩
        · exact .inl ⟨km, by rw [hkm]⟩
        · exact .inr ⟨y, rfl, ny y hy⟩
        · exact .inr ⟨y, rfl, ny y hy⟩
        · exact .inl ⟨k9, by rw [hk9]⟩
        · exact fs
      have s12 := s1.trans s2
      generalize upd H1 l2 _ = H2 at s12 ⊢
      refine ⟨_, rfl, _, rfl, one_line, fun t1 ht1 => ?_⟩
      have s3 := s12.trans (Same.new (o := .tup [u]) ht1)
      exact ⟨t, t1, xs, [u], rfl, rfl, s3 _ _ ht, upd_same, le_line (by simp; omega), fun w H' s4 hw => q w u H' (s3.trans s4) hw su⟩
    | tab a ks zs =>
      refine ⟨_, rfl, _, "list", _, rfl, rfl, Dc.tyN eat, _, rfl, iteBF rfl ?_⟩
      have m6 := fun r : Int => mod_b r (n := 6) (by decide)
      refine ⟨_, rfl, c, 5, rfl, by decide, fun N p5 _ => ?_⟩
      obtain ⟨w, hw, mw⟩ := pick_mem (xs := ys.map V.str) (m6 N).1 (by rw [List.length_map, l6]; exact (m6 N).2)
      obtain ⟨y, hy, rfl⟩ := List.mem_map.mp mw
      refine ⟨_, rfl, _, rfl, _, _, rfl, rfl, (by show (0 : Int) < _; decide), n, _, _, _, rfl, rfl, SqL.of hn, hw, ?_⟩
      refine ⟨_, rfl, _, _, rfl, rfl, _, _, rfl, rfl, ⟨by decide, by decide, by decide⟩, _, _, rfl, rfl, ⟨by decide, by decide, by decide⟩, _, _, rfl, rfl, le_line (show 4 ≤ 1000 by decide), fun l hl => ?_⟩
      have s1 := Same.new (o := .lst [.int 1000, .int ((0 : Int) + 7), .int (10 ^ (30 : Int).toNat), .int (10 ^ (60 : Int).toNat - 1)]) hl
      have m4 := mod_b (N / 6) (n := 4) (by decide)
      obtain ⟨fv, hf, mf⟩ := pick_mem (xs := [V.int 1000, .int ((0 : Int) + 7), .int (10 ^ (30 : Int).toNat), .int (10 ^ (60 : Int).toNat - 1)]) m4.1 m4.2
      refine ⟨_, rfl, _, _, rfl, rfl, ⟨by decide, by decide⟩, _, _, rfl, rfl, (by show (0 : Int) < _; decide), l, _, _, _, rfl, rfl, SqL.of upd_same, hf, ?_⟩
      have fs : Dc.StepV fv := by
        simp only [List.mem_cons, List.not_mem_nil, or_false] at mf
        rcases mf with rfl | rfl | rfl | rfl
        · exact .inl ⟨1000, rfl⟩
        · exact .inl ⟨7, rfl⟩
        · exact .inl ⟨10 ^ 30, congrArg V.int (by decide +kernel)⟩
        · exact .inl ⟨10 ^ 60 - 1, congrArg V.int (by decide +kernel)⟩
      dsimp only [gName]
      generalize upd H l (.lst [.int 1000, .int ((0 : Int) + 7), .int (10 ^ (30 : Int).toNat), .int (10 ^ (60 : Int).toNat - 1)]) = H1 at s1 ⊢
      have m9 := mod_b (N / 6) (n := 9) (by decide)
      obtain ⟨k9, hk9⟩ : ∃ k9 : Nat, N / 6 % 9 = (k9 : Int) := ⟨(N / 6 % 9).toNat, by omega⟩
      obtain ⟨km, hkm⟩ : ∃ km : Nat, (if (0 : Int) - 1 > 0 then (0 : Int) - 1 else 0) = (km : Int) := ⟨0, by split <;> omega⟩
      refine ⟨_, rfl, _, rfl, _, _, rfl, rfl, _, rfl, _, _, rfl, rfl, _, _, rfl, _, rfl, _, rfl, _, rfl, _, _, rfl, rfl, ⟨by decide, by decide⟩, _, _, rfl, rfl, (by show (0 : Int) < _; decide), _, rfl, le_line (show 7 ≤ 1000 by decide), fun l2 hl2 => ?_⟩
      have s2 := Same.new (o := .lst [.int (0 : Int), .int ((0 : Int) + 1), .int (if (0 : Int) - 1 > 0 then (0 : Int) - 1 else 0), .str y, .str y, .int (N / 6 % 9), fv]) hl2
      refine ⟨_, rfl, c, 4, rfl, by decide, fun r7 p7 _ => ⟨_, _, rfl, rfl, (by show (0 : Int) < _; decide), ?_⟩⟩
      have m7 := mod_b r7 (n := 7) (by decide)
      obtain ⟨u, hu, mu⟩ := pick_mem (xs := [.int (0 : Int), .int ((0 : Int) + 1), .int (if (0 : Int) - 1 > 0 then (0 : Int) - 1 else 0), .str y, .str y, .int (N / 6 % 9), fv]) m7.1 m7.2
      refine ⟨l2, _, _, _, rfl, rfl, SqL.of upd_same, hu, ?_⟩
      have su : Dc.StepV u := by
        simp only [List.mem_cons, List.not_mem_nil, or_false] at mu
        rcases mu with rfl | rfl | rfl | rfl | rfl | rfl | rfl
        · exact .inl ⟨0, rfl⟩
        · exact .inl ⟨1, rfl⟩
        · exact .inl ⟨km, by rw [hkm]⟩
        · exact .inr ⟨y, rfl, ny y hy⟩
        · exact .inr ⟨y, rfl, ny y hy⟩
        · exact .inl ⟨k9, by rw [hk9]⟩
        · exact fs
      have s12 := s1.trans s2
      generalize upd H1 l2 _ = H2 at s12 ⊢
      refine ⟨_, rfl, _, rfl, one_line, fun t1 ht1 => ?_⟩
      have s3 := s12.trans (Same.new (o := .tup [u]) ht1)
      exact ⟨t, t1, xs, [u], rfl, rfl, s3 _ _ ht, upd_same, le_line (by simp; omega), fun w H' s4 hw => q w u H' (s3.trans s4) hw su⟩
    | row a zs =>
      refine ⟨_, rfl, _, "list", _, rfl, rfl, Dc.tyN eat, _, rfl, iteBT rfl ?_⟩
      simp only [Dc.At] at eat
      refine ⟨_, rfl, a, _, rfl, .inl (.inl eat.1), ?_⟩
      obtain ⟨many, hmany⟩ : ∃ many : Nat, many = (List.map Dc.val zs).length := ⟨_, rfl⟩
      rw [← hmany]
      have m6 := fun r : Int => mod_b r (n := 6) (by decide)
      refine ⟨_, rfl, c, 5, rfl, by decide, fun N p5 _ => ?_⟩
      obtain ⟨w, hw, mw⟩ := pick_mem (xs := ys.map V.str) (m6 N).1 (by rw [List.length_map, l6]; exact (m6 N).2)
      obtain ⟨y, hy, rfl⟩ := List.mem_map.mp mw
      refine ⟨_, rfl, _, rfl, _, _, rfl, rfl, (by show (0 : Int) < _; decide), n, _, _, _, rfl, rfl, SqL.of hn, hw, ?_⟩
      refine ⟨_, rfl, _, _, rfl, rfl, _, _, rfl, rfl, ⟨by decide, by decide, by decide⟩, _, _, rfl, rfl, ⟨by decide, by decide, by decide⟩, _, _, rfl, rfl, le_line (show 4 ≤ 1000 by decide), fun l hl => ?_⟩
      have s1 := Same.new (o := .lst [.int 1000, .int ((many : Int) + 7), .int (10 ^ (30 : Int).toNat), .int (10 ^ (60 : Int).toNat - 1)]) hl
      have m4 := mod_b (N / 6) (n := 4) (by decide)
      obtain ⟨fv, hf, mf⟩ := pick_mem (xs := [V.int 1000, .int ((many : Int) + 7), .int (10 ^ (30 : Int).toNat), .int (10 ^ (60 : Int).toNat - 1)]) m4.1 m4.2
      refine ⟨_, rfl, _, _, rfl, rfl, ⟨by decide, by decide⟩, _, _, rfl, rfl, (by show (0 : Int) < _; decide), l, _, _, _, rfl, rfl, SqL.of upd_same, hf, ?_⟩
      have fs : Dc.StepV fv := by
        simp only [List.mem_cons, List.not_mem_nil, or_false] at mf
        rcases mf with rfl | rfl | rfl | rfl
        · exact .inl ⟨1000, rfl⟩
        · exact .inl ⟨many + 7, by simp⟩
        · exact .inl ⟨10 ^ 30, congrArg V.int (by decide +kernel)⟩
        · exact .inl ⟨10 ^ 60 - 1, congrArg V.int (by decide +kernel)⟩
      dsimp only [gName]
      generalize upd H l (.lst [.int 1000, .int ((many : Int) + 7), .int (10 ^ (30 : Int).toNat), .int (10 ^ (60 : Int).toNat - 1)]) = H1 at s1 ⊢
      have m9 := mod_b (N / 6) (n := 9) (by decide)
      obtain ⟨k9, hk9⟩ : ∃ k9 : Nat, N / 6 % 9 = (k9 : Int) := ⟨(N / 6 % 9).toNat, by omega⟩
      obtain ⟨km, hkm⟩ : ∃ km : Nat, (if (many : Int) - 1 > 0 then (many : Int) - 1 else 0) = (km : Int) := ⟨many - 1, by split <;> omega⟩
      refine ⟨_, rfl, _, rfl, _, _, rfl, rfl, _, rfl, _, _, rfl, rfl, _, _, rfl, _, rfl, _, rfl, _, rfl, _, _, rfl, rfl, ⟨by decide, by decide⟩, _, _, rfl, rfl, (by show (0 : Int) < _; decide), _, rfl, le_line (show 7 ≤ 1000 by decide), fun l2 hl2 => ?_⟩
      have s2 := Same.new (o := .lst [.int (many : Int), .int ((many : Int) + 1), .int (if (many : Int) - 1 > 0 then (many : Int) - 1 else 0), .str y, .str y, .int (N / 6 % 9), fv]) hl2
      refine ⟨_, rfl, c, 4, rfl, by decide, fun r7 p7 _ => ⟨_, _, rfl, rfl, (by show (0 : Int) < _; decide), ?_⟩⟩
      have m7 := mod_b r7 (n := 7) (by decide)
      obtain ⟨u, hu, mu⟩ := pick_mem (xs := [.int (many : Int), .int ((many : Int) + 1), .int (if (many : Int) - 1 > 0 then (many : Int) - 1 else 0), .str y, .str y, .int (N / 6 % 9), fv]) m7.1 m7.2
      refine ⟨l2, _, _, _, rfl, rfl, SqL.of upd_same, hu, ?_⟩
      have su : Dc.StepV u := by
        simp only [List.mem_cons, List.not_mem_nil, or_false] at mu
        rcases mu with rfl | rfl | rfl | rfl | rfl | rfl | rfl
        · exact .inl ⟨many, rfl⟩
        · exact .inl ⟨many + 1, by simp⟩
        · exact .inl ⟨km, by rw [hkm]⟩
        · exact .inr ⟨y, rfl, ny y hy⟩
        · exact .inr ⟨y, rfl, ny y hy⟩
        · exact .inl ⟨k9, by rw [hk9]⟩
        · exact fs
      have s12 := s1.trans s2
      generalize upd H1 l2 _ = H2 at s12 ⊢
      refine ⟨_, rfl, _, rfl, one_line, fun t1 ht1 => ?_⟩
      have s3 := s12.trans (Same.new (o := .tup [u]) ht1)
      exact ⟨t, t1, xs, [u], rfl, rfl, s3 _ _ ht, upd_same, le_line (by simp; omega), fun w H' s4 hw => q w u H' (s3.trans s4) hw su⟩
end
end K21

set_option Elab.async false
set_option linter.all false
set_option maxRecDepth 100000
set_option maxHeartbeats 40000000
namespace K21
open PySem L2
section
variable {P : Program} {w : World} {K : PySem.W.Frag} {mg : Str → Option Value} {base : Heap}
theorem scSpoil : FnScope ["_law_doc_here", "_law_one", "_law_name"] ["_law_doc_here"] (defScope sSpoil) := ⟨rfl, rfl, rfl, by decide +kernel, rfl, by decide +kernel, by decide +kernel⟩
theorem ok_Spoil {n : Nat} {f : Addr} {fd : FuncData} (F : Fun K "_law_spoil" "_law_spoil" sSpoil f fd) (T : Txt mg) (DSpoil : Df P w K mg base "_law_spoil" ["_law_doc_here"] n (spSpoil n)) : FnOk P w K mg base CX0 (n + 1) f fd ["_law_doc_here"] (spSpoil (n + 1)) := by
  obtain ⟨fSpoil, dSpoil, kSpoil, bSpoil, mSpoil, GSpoil⟩ := DSpoil.ex
  refine F.ok scSpoil (fun vs H Q E h => ?_) (fun cdv A outer s H vs Q E hr h => ?_)
  · obtain ⟨d, rfl, hat, hnd, hown, hdp, hsz, q⟩ := h
    rfl
  · obtain ⟨d, rfl, hat, hnd, hown, hdp, hsz, q⟩ := h
    have nd := scSpoil.nd
    have hu := hu_of hr
    have hrSpoil : Room n _ := hr.mono (by first | decide | omega)
    refine ⟨_, (pss_cons (ps_if (pt_val (pe_callB call_isiN rfl T.isinstance b_isinstance (pa_cons (pv 0) (pa_cons (pe_bltn (v := .ty "list") rfl T.list b_list rfl) pa_nil)))) (pss_cons (ps_for PassesOwn.never rfl (pi_list (pv 0)) (pg_name (i := 1) nd rfl (Or.inl rfl)) (pss_one (ps_expr (pe_call GSpoil hrSpoil rfl mSpoil kSpoil bSpoil .nil pass0 (pa_cons (pv 1) pa_nil)))))
      (pss_one (ps_expr (pe_bm PySem.F.plainAttrs_list PySem.F.slot_list_append PySem.F.type_list_append mt_append (pv 0) (pa_cons pe_str pa_nil))))) pss_nil)
      (pss_one (ps_if (pt_val (pe_callB call_isiN rfl T.isinstance b_isinstance (pa_cons (pv 0) (pa_cons (pe_bltn (v := .ty "dict") rfl T.dict b_dict rfl) pa_nil)))) (pss_cons (ps_walk (ps_for PassesOwn.never rfl (pi_dict (pv 0)) (pg_name (i := 2) nd rfl (Or.inl rfl)) (pss_one (ps_expr (pe_call GSpoil hrSpoil rfl mSpoil kSpoil bSpoil .nil pass0 (pa_cons (pe_dget hu (pv 0) (pv 2) (fun _ _ => rfl)) pa_nil))))))
      (pss_one (ps_dput hu (pv 0) pe_str pe_int rfl))) pss_nil))), ?_⟩
    cases d with
    | leaf v =>
      refine ⟨_, rfl, _, "list", Dc.tyS (.leaf v), rfl, rfl, Dc.tyN hat, _, rfl, iteBF (by cases v <;> rfl) ?_⟩
      exact ⟨_, rfl, _, "dict", Dc.tyS (.leaf v), rfl, rfl, Dc.tyN hat, _, rfl, iteBF (by cases v <;> rfl) (q H fun a o _ e => e)⟩
    | row a xs =>
      refine ⟨_, rfl, _, "list", _, rfl, rfl, Dc.tyN hat, _, rfl, iteBT rfl ?_⟩
      have hat' := hat
      simp only [Dc.At] at hat'
      simp only [Dc.size] at hsz
      simp only [Dc.deep] at hdp
      simp only [Dc.addrs] at hnd hown q
      obtain ⟨n1, n2⟩ := List.nodup_cons.mp hnd
      have ea := hat'.1.exact (hown a List.mem_cons_self)
      have lx := Dc.lenL xs
      have ll : (xs.map Dc.val).length = xs.length := List.length_map ..
      have sub1 : ∀ i, ∀ c ∈ Dc.addrsL (xs.take i), c ∈ Dc.addrsL xs := fun i c hc => by
        have : Dc.addrsL xs = Dc.addrsL (xs.take i) ++ Dc.addrsL (xs.drop i) := by rw [← Dc.addrsL_append, List.take_append_drop]
        rw [this]
        exact List.mem_append_left _ hc
      refine ⟨_, rfl, a, rfl, ⟨_, .inl hat'.1⟩, for_list (xs := xs.map Dc.val) (fun i σ Hi => Ex2_2 (fun (o2 o3 : Option V) => σ = [some (.ref a), o2, o3]) (fun (o2 o3 : Option V) => OnlyAt (Dc.addrsL (xs.take i)) H Hi))
        ⟨none, none, rfl, fun b u _ e => e⟩ (fun i σ Hi _ ⟨_, _, _, s⟩ => .inl (.inl (s a _ (fun z => n1 (sub1 i a z)) ea))) ?_ ?_⟩
      · rintro i v σ Hi hv ⟨o2, o3, rfl, si⟩
        obtain ⟨x, hx, rfl⟩ : ∃ x, xs[i]? = some x ∧ x.val = v := by
          rw [List.getElem?_map] at hv
          cases e : xs[i]? with
          | none => rw [e] at hv; cases hv
          | some x => rw [e] at hv; exact ⟨x, rfl, Option.some.inj hv⟩
        have hm := List.mem_of_getElem? hx
        have dx := Dc.deepL_mem hm
        have sx := Dc.sizeL_mem hm
        have e1 : Dc.addrsL (xs.take (i + 1)) = Dc.addrsL (xs.take i) ++ x.addrs := by rw [List.take_add_one, hx, Dc.addrsL_append]; simp [Dc.addrsL]
        have dj : ∀ c ∈ x.addrs, c ∉ Dc.addrsL (xs.take i) := fun c hc z => by
          have e2 : Dc.addrsL xs = Dc.addrsL (xs.take (i + 1)) ++ Dc.addrsL (xs.drop (i + 1)) := by rw [← Dc.addrsL_append, List.take_append_drop]
          rw [e2, e1] at n2
          exact (List.nodup_append.mp (List.nodup_append.mp n2).1).2.2 c z c hc rfl
        have nx : x.addrs.Nodup := by
          have e2 : Dc.addrsL xs = Dc.addrsL (xs.take (i + 1)) ++ Dc.addrsL (xs.drop (i + 1)) := by rw [← Dc.addrsL_append, List.take_append_drop]
          rw [e2, e1] at n2
          exact (List.nodup_append.mp (List.nodup_append.mp n2).1).2.1
        have xin : ∀ c ∈ x.addrs, c ∈ Dc.addrsL xs := fun c hc => Dc.addrsL_mem hm hc
        have xat := Dc.AtL_mem hat'.2 x hm
        refine ⟨_, rfl, x, rfl, Dc.at_frame x (fun c hc o h => si c o (dj c hc) h) xat, nx, fun c hc => frz_up (Dc.there xat hc) (hown c (List.mem_cons_of_mem _ (xin c hc))) (fun o h => si c o (dj c hc) h), by omega, by omega, fun H2 s2 => ?_⟩
        refine ⟨_, _, rfl, fun c o hc h => ?_⟩
        rw [e1, List.mem_append, not_or] at hc
        exact s2 c o hc.2 (si c o hc.1 h)
      · rintro σ Hi ⟨o2, o3, rfl, si⟩
        rw [ll, List.take_length] at si
        have eai := si a _ n1 ea
        refine ⟨_, rfl, .inl ⟨rfl, _, SqL.of eai⟩, a, _, _, rfl, rfl, eai, small1000 (by rw [ll]; omega), ?_⟩
        refine ⟨_, rfl, _, "dict", "list", rfl, rfl, .lst (.inl upd_same), _, rfl, iteBF rfl (q _ fun c o hc h => ?_)⟩
        rw [List.mem_cons, not_or] at hc
        rw [upd_ne hc.1]
        exact si c o hc.2 h
    | tab a ks xs =>
      refine ⟨_, rfl, _, "list", _, rfl, rfl, Dc.tyN hat, _, rfl, iteBF rfl ?_⟩
      refine ⟨_, rfl, _, "dict", _, rfl, rfl, Dc.tyN hat, _, rfl, iteBT rfl ?_⟩
      have hat' := hat
      simp only [Dc.At] at hat'
      simp only [Dc.size] at hsz
      simp only [Dc.deep] at hdp
      simp only [Dc.addrs] at hnd hown q
      obtain ⟨n1, n2⟩ := List.nodup_cons.mp hnd
      have ea := hat'.1.exact (hown a List.mem_cons_self)
      have lx := Dc.lenL xs
      have kl : (Dc.kvs ks xs).length = xs.length := by
        have := congrArg List.length (Dc.kvs_keys (ks := ks) (xs := xs) hat'.2.1)
        rw [List.length_map, List.length_map] at this
        rw [this, hat'.2.1]
      have sub1 : ∀ i, ∀ c ∈ Dc.addrsL (xs.take i), c ∈ Dc.addrsL xs := fun i c hc => by
        have : Dc.addrsL xs = Dc.addrsL (xs.take i) ++ Dc.addrsL (xs.drop i) := by rw [← Dc.addrsL_append, List.take_append_drop]
        rw [this]
        exact List.mem_append_left _ hc
      refine ⟨a, _, hat'.1, fun o Hf F => ⟨_, rfl, a, o, _, rfl, F.at_, ?_⟩⟩
      refine for_dict (fun i σ Hi => Ex2_2 (fun (o2 o3 : Option V) => σ = [some (.ref a), o2, o3]) (fun (o2 o3 : Option V) => OnlyAt (Dc.addrsL (xs.take i)) Hf Hi))
        ⟨none, none, rfl, fun b u _ e => e⟩ (fun i σ Hi _ ⟨_, _, _, s⟩ => s a _ (fun z => n1 (sub1 i a z)) F.at_) ?_ ?_
      · rintro i k v σ Hi hkv ⟨o2, o3, rfl, si⟩
        have hi : i < xs.length := by rw [← kl]; exact (List.getElem?_eq_some_iff.mp hkv).1
        obtain ⟨x, hx⟩ : ∃ x, xs[i]? = some x := ⟨_, List.getElem?_eq_getElem hi⟩
        have hm := List.mem_of_getElem? hx
        obtain ⟨nm, hnm⟩ : ∃ nm, ks[i]? = some nm := ⟨_, List.getElem?_eq_getElem (by rw [hat'.2.1]; exact hi)⟩
        have hkx : k = Sum.inr nm ∧ v = x.val := by
          unfold Dc.kvs at hkv
          rw [List.getElem?_map] at hkv
          have e : (ks.zip (xs.map Dc.val))[i]? = some (nm, x.val) := by
            rw [List.getElem?_zip_eq_some]
            exact ⟨hnm, by rw [List.getElem?_map, hx]; rfl⟩
          rw [e] at hkv
          have hkv := Option.some.inj hkv
          exact ⟨(congrArg Prod.fst hkv).symm, (congrArg Prod.snd hkv).symm⟩
        obtain ⟨rfl, rfl⟩ := hkx
        have lk : (ks.zip xs).lookup nm = some x := Dc.lookup_idx hat'.2.2.1 hnm hx
        have dx := Dc.deepL_mem hm
        have sx := Dc.sizeL_mem hm
        have e1 : Dc.addrsL (xs.take (i + 1)) = Dc.addrsL (xs.take i) ++ x.addrs := by rw [List.take_add_one, hx, Dc.addrsL_append]; simp [Dc.addrsL]
        have e2 : Dc.addrsL xs = Dc.addrsL (xs.take (i + 1)) ++ Dc.addrsL (xs.drop (i + 1)) := by rw [← Dc.addrsL_append, List.take_append_drop]
        have n3 := n2
        rw [e2, e1] at n3
        have dj : ∀ c ∈ x.addrs, c ∉ Dc.addrsL (xs.take i) := fun c hc z => (List.nodup_append.mp (List.nodup_append.mp n3).1).2.2 c z c hc rfl
        have nx : x.addrs.Nodup := (List.nodup_append.mp (List.nodup_append.mp n3).1).2.1
        have xin : ∀ c ∈ x.addrs, c ∈ Dc.addrsL xs := fun c hc => Dc.addrsL_mem hm hc
        have xat := Dc.AtL_mem hat'.2.2.2 x hm
        have fr : ∀ c ∈ x.addrs, ∀ o', H c = some o' → Hi c = some o' := fun c hc o' h => by
          refine si c o' (dj c hc) ?_
          rw [F.ne c (fun z => n1 (by rw [← z]; exact xin c hc))]
          exact h
        have hv : valV (Dc.kvs ks xs) (Sum.inr nm) = some x.val := by rw [Dc.valV_kvs hat'.2.1, lk]; rfl
        have rd : Rd Hi a (.dK (Dc.kvs ks xs)) := .inr ⟨o, si a _ (fun z => n1 (sub1 i a z)) F.at_⟩
        refine ⟨_, rfl, _, rfl, a, x.val, rfl, (by rw [← hv]; exact .inl ⟨_, Sum.inr nm, rd, rfl, rfl⟩), x, rfl, Dc.at_frame x fr xat, nx, fun c hc => frz_up (Dc.there xat hc) (hown c (List.mem_cons_of_mem _ (xin c hc))) (fr c hc), by omega, by omega, fun H2 s2 => ?_⟩
        refine ⟨_, _, rfl, fun c o hc h => ?_⟩
        rw [e1, List.mem_append, not_or] at hc
        exact s2 c o hc.2 (si c o hc.1 h)
      · rintro σ Hi ⟨o2, o3, rfl, si⟩
        rw [kl, List.take_length] at si
        refine ⟨si a _ n1 F.at_, ?_⟩
        have eb : back a H Hi a = some (.dK (Dc.kvs ks xs)) := by rw [back_at]; exact ea
        refine ⟨_, rfl, a, _, rfl, DPut.k (k := Sum.inr "zz") eb (small1000 (by rw [kl]; omega)), q _ fun c o' hc h => ?_⟩
        rw [List.mem_cons, not_or] at hc
        rw [upd_ne hc.1, back_ne hc.1]
        refine si c o' hc.2 ?_
        rw [F.ne c hc.1]
        exact h
theorem all_Spoil {f : Addr} {fd : FuncData} (F : Fun K "_law_spoil" "_law_spoil" sSpoil f fd) (T : Txt mg) (b : Binds K fd ["_law_doc_here"] []) (m : mg "_law_spoil" = some (.ref f)) : ∀ n : Nat, FnOk P w K mg base CX0 n f fd ["_law_doc_here"] (spSpoil n)
  | 0 => none0 (fun vs H Q E h => by obtain ⟨d, _, _, _, _, h0, _⟩ := h; have := Dc.deep_pos d; omega)
  | n + 1 => ok_Spoil F T (Df.mk' F b m (all_Spoil F T b m n))
end
end K21

set_option Elab.async false
set_option linter.all false
set_option maxRecDepth 100000
set_option maxHeartbeats 40000000
namespace K21
open PySem L2
section
variable {P : Program} {w : World} {K : PySem.W.Frag} {mg : Str → Option Value} {base : Heap}
theorem scAsked : FnScope ["_law_doc_here", "_law_path", "_law_value_here", "_law_found", "_law_e"] ["_law_doc_here", "_law_path", "_law_value_here"] (defScope sAsked) := ⟨rfl, rfl, rfl, by decide +kernel, rfl, by decide +kernel, by decide +kernel⟩
theorem ok_Asked {C cBoughError : Addr} {f : Addr} {fd : FuncData} (F : Fun K "_law_asked" "_law_asked" sAsked f fd) (T : Txt mg) (DPutAt : Df1 P w K mg base "put_at" ["doc", "path", "value"] 5 (spPut1 C)) (DNoPart : DfN P w K mg base "_law_no_part" ["_law_e"] 1 (spNoPart C)) (mXBoughError : mg "BoughError" = some (.ref cBoughError)) (qXNoPart : excInB K C bmV "ValueError.__new__" = true) (qXBoughError : excInB K cBoughError bmV "ValueError.__new__" = true) (sX : subIn K C cBoughError = true) : FnOk P w K mg base CX0 6 f fd ["_law_doc_here", "_law_path", "_law_value_here"] spAskedP := by
  obtain ⟨fPutAt, dPutAt, kPutAt, bPutAt, mPutAt, GPutAt⟩ := DPutAt.ex
  obtain ⟨fNoPart, dNoPart, kNoPart, bNoPart, mNoPart, GNoPart⟩ := DNoPart.ex
  refine F.ok scAsked (fun vs H Q E h => ?_) (fun cdv A outer s H vs Q E hr h => ?_)
  · obtain ⟨d, v, t, xs, rfl, hat, hsz, hvt, hvz, ht, hx, q, qn⟩ := h
    rfl
  · obtain ⟨d, v, t, xs, rfl, hat, hsz, hvt, hvz, ht, hx, q, qn⟩ := h
    have nd := scAsked.nd
    have hu := hu_of hr
    have hrPutAt : Room 5 _ := hr.mono (by first | decide | omega)
    have hrNNoPart := fun v => Room.held (k := 1) (hr.mono (by first | decide | omega)) v
    have hitBoughError : ∀ {X : Cx}, Gl X "BoughError" → X.mg = mg → X.K = K → Hits X "BoughError" C cBoughError bmV bmV "ValueError.__new__" "ValueError.__new__" := fun g h1 h2 => ⟨g, by rw [h1]; exact mXBoughError, by rw [h2]; exact qXNoPart, by rw [h2]; exact qXBoughError, rfl, by rw [h2]; exact sX, by decide⟩
    refine ⟨_, (pss_cons (ps_tryB rfl rfl rfl GPutAt hrPutAt rfl mPutAt kPutAt bPutAt (pa_cons (pv 0) (pa_cons (pv 1) (pa_cons (pv 2) pa_nil))) (hitBoughError rfl rfl rfl) (i := 4) nd rfl rfl (j := 3) rfl rfl (fun e => (pss_one (ps_ret (pe_ix (r := rIxL K) ix_list (pe_lst (pa_cons pe_str (pa_cons pe_non pa_nil))) (pe_callTy call_int1 rfl T.int b_int (pa_cons (pe_callN GNoPart (hrNNoPart _) rfl mNoPart kNoPart bNoPart .nil pass0 (pa_cons (pv 4) pa_nil)) pa_nil)) (fun _ _ => rfl))))))
      (pss_one (ps_ret (pe_tup (pa_cons (pv 3) pa_nil))))), ?_⟩
    refine ⟨_, rfl, _, rfl, _, rfl, d, v, t, xs, rfl, hat, Dc.slim_of d (by omega), by omega, hvt, Dc.slim_of v (by omega), by omega, ht, hx, fun us lv e exs hs hr0 d' H1 F1 q1 => ?_, fun hno H1 s1 => ⟨rfl, fun ea H3 hn s3 hea => ?_⟩⟩
    · refine ⟨_, rfl, one_line, fun g hg => ?_⟩
      exact q us lv e exs hs hr0 g d' _ (F1.up (Same.new hg)) upd_same q1
    · refine ⟨two_line, fun l hl => ?_⟩
      have s4 := Same.new (o := .lst [.str "odd", .non]) hl
      refine ⟨_, rfl, ea, rfl, s4 _ _ hea, fun H5 s5 => .inr ⟨_, rfl, l, _, _, _, rfl, rfl, SqL.of (s5 _ _ upd_same), rfl, ?_⟩⟩
      exact qn hno H5 (((s1.trans s3).trans s4).trans s5)
end
end K21

set_option Elab.async false
set_option linter.all false
set_option maxRecDepth 100000
set_option maxHeartbeats 40000000
namespace K21
open PySem L2
section
variable {P : Program} {w : World} {K : PySem.W.Frag} {mg : Str → Option Value} {base : Heap}
theorem scRight : FnScope ["_law_doc_here", "_law_path", "_law_value_here", "_law_due", "_law_kept", "_law_k", "_law_found"] ["_law_doc_here", "_law_path", "_law_value_here"] (defScope sRight) := ⟨rfl, rfl, rfl, by decide +kernel, rfl, by decide +kernel, by decide +kernel⟩
theorem ok_Right {f : Addr} {fd : FuncData} (F : Fun K "_law_right" "_law_right" sRight f fd) (T : Txt mg) (DCopy : Df P w K mg base "_law_copy" ["_law_doc_here"] 50 (spCopy 50)) (DAlike : Df P w K mg base "_law_alike" ["_law_one", "_law_other"] 50 (spAlikeE 50)) (DPut : Df P w K mg base "_law_put" ["_law_doc_here", "_law_path", "_law_value_here"] 52 spLPut) (DSpoil : Df P w K mg base "_law_spoil" ["_law_doc_here"] 50 (spSpoil 50)) (DAsked : Df P w K mg base "_law_asked" ["_law_doc_here", "_law_path", "_law_value_here"] 6 spAskedP) : FnOk P w K mg base CX0 56 f fd ["_law_doc_here", "_law_path", "_law_value_here"] spRightP := by
  obtain ⟨fCopy, dCopy, kCopy, bCopy, mCopy, GCopy⟩ := DCopy.ex
  obtain ⟨fAlike, dAlike, kAlike, bAlike, mAlike, GAlike⟩ := DAlike.ex
  obtain ⟨fPut, dPut, kPut, bPut, mPut, GPut⟩ := DPut.ex
  obtain ⟨fSpoil, dSpoil, kSpoil, bSpoil, mSpoil, GSpoil⟩ := DSpoil.ex
  obtain ⟨fAsked, dAsked, kAsked, bAsked, mAsked, GAsked⟩ := DAsked.ex
  refine F.ok scRight (fun vs H Q E h => ?_) (fun cdv A outer s H vs Q E hr h => ?_)
  · obtain ⟨d, v, t, xs, rfl, hat, hsz, hvt, hvz, ht, hx, q⟩ := h
    rfl
  · obtain ⟨d, v, t, xs, rfl, hat, hsz, hvt, hvz, ht, hx, q⟩ := h
    have nd := scRight.nd
    have hu := hu_of hr
    have hrCopy : Room 50 _ := hr.mono (by first | decide | omega)
    have hrAlike : Room 50 _ := hr.mono (by first | decide | omega)
    have hrPut : Room 52 _ := hr.mono (by first | decide | omega)
    have hrSpoil : Room 50 _ := hr.mono (by first | decide | omega)
    have hrAsked : Room 6 _ := hr.mono (by first | decide | omega)
    refine ⟨_, (pss_cons (ps_set (i := 3) nd rfl (Or.inl rfl) (pe_call GPut hrPut rfl mPut kPut bPut .nil pass0 (pa_cons (pv 0) (pa_cons (pv 1) (pa_cons (pv 2) pa_nil)))))
      (pss_cons (ps_set (i := 4) nd rfl (Or.inl rfl) (pe_lst (pa_cons (pe_call GCopy hrCopy rfl mCopy kCopy bCopy .nil pass0 (pa_cons (pv 0) pa_nil)) (pa_cons (pe_call GCopy hrCopy rfl mCopy kCopy bCopy .nil pass0 (pa_cons (pv 2) pa_nil)) pa_nil))))
      (pss_cons (ps_for PassesOwn.never rfl (pi_range1 rfl T.range (pa_cons pe_int pa_nil)) (pg_name (i := 5) nd rfl (Or.inl rfl)) (pss_cons (ps_set (i := 6) nd rfl (Or.inl rfl) (pe_call GAsked hrAsked rfl mAsked kAsked bAsked .nil pass0 (pa_cons (pv 0) (pa_cons (pv 1) (pa_cons (pv 2) pa_nil)))))
      (pss_cons (ps_if (PW.pt (pw_or (PW.pt (pw_and (pt_cmpR op_isN (pv 3) pe_non (nomark _)) (pw_and1 (pt_cmpR op_notN (pv 6) pe_non (nomark _))))) (pw_or1 (PW.pt (pw_and (pt_cmpR op_notN (pv 3) pe_non (nomark _)) (pw_and1 (pt_not (pt_val (pe_callB call_isiN rfl T.isinstance b_isinstance (pa_cons (pv 6) (pa_cons (pe_bltn (v := .ty "tuple") rfl T.tuple b_tuple rfl) pa_nil))))))))))) (pss_one (ps_ret pe_bl)) pss_nil)
      (pss_cons (ps_if (pt_cmpR op_notN (pv 3) pe_non (nomark _)) (pss_cons (ps_if (pt_not (pt_val (pe_call GAlike hrAlike rfl mAlike kAlike bAlike .nil pass0 (pa_cons (pe_ix (r := rIxT K) ix_tup (pv 3) pe_int (fun _ _ => rfl)) (pa_cons (pe_ix (r := rIxT K) ix_tup (pv 6) pe_int (fun _ _ => rfl)) pa_nil))))) (pss_one (ps_ret pe_bl)) pss_nil)
      (pss_one (ps_expr (pe_call GSpoil hrSpoil rfl mSpoil kSpoil bSpoil .nil pass0 (pa_cons (pe_ix (r := rIxT K) ix_tup (pv 6) pe_int (fun _ _ => rfl)) pa_nil))))) pss_nil)
      (pss_one (ps_if (PW.pt (pw_or (pt_not (pt_val (pe_call GAlike hrAlike rfl mAlike kAlike bAlike .nil pass0 (pa_cons (pe_ix (r := rIxL K) ix_list (pv 4) pe_int (fun _ _ => rfl)) (pa_cons (pv 0) pa_nil))))) (pw_or1 (pt_not (pt_val (pe_call GAlike hrAlike rfl mAlike kAlike bAlike .nil pass0 (pa_cons (pe_ix (r := rIxL K) ix_list (pv 4) pe_int (fun _ _ => rfl)) (pa_cons (pv 2) pa_nil)))))))) (pss_one (ps_ret pe_bl)) pss_nil))))))
      (pss_one (ps_ret pe_bl))))), ?_⟩
    have wd := Dc.at_wf d hat
    have wv := Dc.at_wf v hvt
    refine ⟨_, rfl, _, rfl, _, rfl, d, v, t, xs, rfl, hat, hsz, hvt, hvz, ht, hx, fun us lv e exs hs hr0 g d1 H1 F1 hg1 q1 => ?_, fun hno H1 s1 => ?_⟩
    · refine ⟨_, rfl, d, rfl, Dc.at_same F1.same hat, Nat.le_trans (Dc.deep_size d) (by omega), by omega, fun kd H2 Fd lkd => ⟨_, rfl, v, rfl, Dc.at_same (F1.same.trans Fd.same) hvt, Nat.le_trans (Dc.deep_size v) (by omega), by omega, fun kv H3 Fv lkv => ⟨two_line, fun L hL => ?_⟩⟩⟩
      have s34 := Same.new (o := .lst [kd.val, kv.val]) hL
      have hL4 : upd H3 L (.lst [kd.val, kv.val]) L = some (.lst [kd.val, kv.val]) := upd_same
      generalize upd H3 L (.lst [kd.val, kv.val]) = H4 at s34 hL4 ⊢
      have s14 := (Fd.same.trans Fv.same).trans s34
      have s04 := F1.same.trans s14
      have kd4 : kd.At H4 := Dc.at_same (Fv.same.trans s34) Fd.at_
      have kv4 : kv.At H4 := Dc.at_same s34 Fv.at_
      have we := Dc.at_wf e ((Dc.PartOf.sub hs).at_ hat)
      have w1 := Dc.at_wf d1 F1.at_
      have wi := Dc.insN_wf we wv hr0
      have ws := Dc.setP_wf wd hs wi
      have z1 : d1.size ≤ 48 := by
        have h1 := Dc.Eqv.size ws w1 q1
        have h2 := Dc.setP_size (n := e.insN lv v) wd hs
        have h3 := Dc.insN_size (v := v) hr0
        omega
      refine ⟨2, rfl, by decide, by decide, for_range (lo := 0) (n := 2) (fun i σ Hi => Ex2_2 (fun (o5 o6 : Option V) => σ = [some d.val, some (.ref t), some v.val, some (.ref g), some (.ref L), o5, o6]) (fun (o5 o6 : Option V) => Same H4 Hi)) ⟨none, none, rfl, Same.refl _⟩ ?_ ?_⟩
      · rintro i σ Hi hi ⟨o5, o6, rfl, si⟩
        have s0i := s04.trans si
        refine ⟨_, rfl, _, rfl, _, rfl, d, v, t, xs, rfl, Dc.at_same s0i hat, hsz, Dc.at_same s0i hvt, hvz, s0i _ _ ht, hx, fun us' lv' e' exs' hs' hr' g2 d2 H5 F5 hg2 q2 => ?_, fun hno => by have := hno us lv e exs hs; rw [hr0] at this; cases this⟩
        obtain ⟨rfl, rfl⟩ := snoc_inj (exs.symm.trans exs')
        rw [hs] at hs'
        cases hs'
        have s45 := si.trans F5.same
        have s15 := s14.trans s45
        have w2 := Dc.at_wf d2 F5.at_
        have q12 : Dc.Eqv d1 d2 := Dc.Eqv.trans ws q1.symm q2
        have z2 : d2.size ≤ 48 := by rw [← Dc.Eqv.size w1 w2 q12]; exact z1
        refine ⟨_, rfl, rfl, _, rfl, iteBF rfl ?_⟩
        refine iteBF rfl ?_
        refine ⟨_, rfl, rfl, _, rfl, iteBT rfl ?_⟩
        refine ⟨_, rfl, _, "tuple", "tuple", rfl, rfl, .tup hg2, _, rfl, iteBF rfl ?_⟩
        refine ⟨_, rfl, rfl, _, rfl, iteBT rfl ?_⟩
        refine ⟨_, rfl, g, _, _, _, rfl, rfl, SqT.of (s15 _ _ hg1), rfl, _, rfl, g2, _, _, _, rfl, rfl, SqT.of hg2, rfl, d1, d2, rfl, Dc.at_same s15 F1.at_, F5.at_, q12, by omega, Nat.le_trans (Dc.deep_size d1) (by omega), fun H6 s6 => ⟨_, rfl, iteBF rfl ?_⟩⟩
        have F6 := F5.up s6
        refine ⟨_, rfl, g2, _, _, _, rfl, rfl, SqT.of (s6 _ _ hg2), rfl, d2, rfl, F6.at_, F6.nd, F6.own, Nat.le_trans (Dc.deep_size d2) (by omega), by omega, fun H7 o7 => ?_⟩
        have s4x : Same H4 H7 := fun a o h => o7 a o (fun z => by
          have := F6.new a z
          rw [si _ _ h] at this
          cases this) ((s45.trans s6) _ _ h)
        refine ⟨_, rfl, L, _, _, _, rfl, rfl, SqL.of (s4x _ _ hL4), rfl, _, rfl, kd, d, rfl, Dc.at_same s4x kd4, Dc.at_same (s04.trans s4x) hat, (Dc.like_eqv d kd lkd).symm, by have := Dc.like_size d kd lkd; omega, Nat.le_trans (Dc.deep_size kd) (by have := Dc.like_size d kd lkd; omega), fun HY sY => ⟨_, rfl, iteBF rfl ?_⟩⟩
        have s4y := s4x.trans sY
        exact ⟨_, rfl, L, _, _, _, rfl, rfl, SqL.of (s4y _ _ hL4), rfl, _, rfl, kv, v, rfl, Dc.at_same s4y kv4, Dc.at_same (s04.trans s4y) hvt, (Dc.like_eqv v kv lkv).symm, by have := Dc.like_size v kv lkv; omega, Nat.le_trans (Dc.deep_size kv) (by have := Dc.like_size v kv lkv; omega), fun HZ sZ => ⟨_, rfl, iteBF rfl ⟨_, _, rfl, s4y.trans sZ⟩⟩⟩
      · rintro σ Hi ⟨o5, o6, rfl, si⟩
        exact q Hi (s04.trans si)
    · refine ⟨_, rfl, d, rfl, Dc.at_same s1 hat, Nat.le_trans (Dc.deep_size d) (by omega), by omega, fun kd H2 Fd lkd => ⟨_, rfl, v, rfl, Dc.at_same (s1.trans Fd.same) hvt, Nat.le_trans (Dc.deep_size v) (by omega), by omega, fun kv H3 Fv lkv => ⟨two_line, fun L hL => ?_⟩⟩⟩
      have s34 := Same.new (o := .lst [kd.val, kv.val]) hL
      have hL4 : upd H3 L (.lst [kd.val, kv.val]) L = some (.lst [kd.val, kv.val]) := upd_same
      generalize upd H3 L (.lst [kd.val, kv.val]) = H4 at s34 hL4 ⊢
      have s14 := (Fd.same.trans Fv.same).trans s34
      have s04 := s1.trans s14
      have kd4 : kd.At H4 := Dc.at_same (Fv.same.trans s34) Fd.at_
      have kv4 : kv.At H4 := Dc.at_same s34 Fv.at_
      refine ⟨2, rfl, by decide, by decide, for_range (lo := 0) (n := 2) (fun i σ Hi => Ex2_2 (fun (o5 o6 : Option V) => σ = [some d.val, some (.ref t), some v.val, some .non, some (.ref L), o5, o6]) (fun (o5 o6 : Option V) => Same H4 Hi)) ⟨none, none, rfl, Same.refl _⟩ ?_ ?_⟩
      · rintro i σ Hi hi ⟨o5, o6, rfl, si⟩
        have s0i := s04.trans si
        refine ⟨_, rfl, _, rfl, _, rfl, d, v, t, xs, rfl, Dc.at_same s0i hat, hsz, Dc.at_same s0i hvt, hvz, s0i _ _ ht, hx, fun us' lv' e' exs' hs' hr' => (by have := hno us' lv' e' exs' hs'; rw [hr'] at this; cases this), fun _ H5 s5 => ?_⟩
        refine ⟨_, rfl, rfl, _, rfl, iteBT rfl ?_⟩
        refine ⟨_, rfl, rfl, _, rfl, iteBF rfl ?_⟩
        refine ⟨_, rfl, rfl, _, rfl, iteBF rfl (iteF ?_)⟩
        refine ⟨_, rfl, rfl, _, rfl, iteBF rfl ?_⟩
        have s4x := si.trans s5
        refine ⟨_, rfl, L, _, _, _, rfl, rfl, SqL.of (s4x _ _ hL4), rfl, _, rfl, kd, d, rfl, Dc.at_same s4x kd4, Dc.at_same (s04.trans s4x) hat, (Dc.like_eqv d kd lkd).symm, by have := Dc.like_size d kd lkd; omega, Nat.le_trans (Dc.deep_size kd) (by have := Dc.like_size d kd lkd; omega), fun HY sY => ⟨_, rfl, iteBF rfl ?_⟩⟩
        have s4y := s4x.trans sY
        exact ⟨_, rfl, L, _, _, _, rfl, rfl, SqL.of (s4y _ _ hL4), rfl, _, rfl, kv, v, rfl, Dc.at_same s4y kv4, Dc.at_same (s04.trans s4y) hvt, (Dc.like_eqv v kv lkv).symm, by have := Dc.like_size v kv lkv; omega, Nat.le_trans (Dc.deep_size kv) (by have := Dc.like_size v kv lkv; omega), fun HZ sZ => ⟨_, rfl, iteBF rfl ⟨_, _, rfl, s4y.trans sZ⟩⟩⟩
      · rintro σ Hi ⟨o5, o6, rfl, si⟩
        exact q Hi (s04.trans si)
end
end K21

set_option Elab.async false
set_option linter.all false
set_option maxRecDepth 100000
set_option maxHeartbeats 40000000
namespace K21
open PySem L2
section
variable {P : Program} {w : World} {K : PySem.W.Frag} {mg : Str → Option Value} {base : Heap}
theorem scLaw : FnScope ["_law_script", "_law_names_here", "_law_doc_here", "_law_many", "_law_cell_here", "_law_paths_here", "_law_value_here", "_law_k"] ["_law_script"] (defScope sLaw) := ⟨rfl, rfl, rfl, by decide +kernel, rfl, by decide +kernel, by decide +kernel⟩
theorem ok_Law {f : Addr} {fd : FuncData} (F : Fun K "law" "law" sLaw f fd) (T : Txt mg) (DCell : Df P w K mg base "_law_cell" ["_law_script", "_law_k"] 1 (spCell K)) (DMix : Df P w K mg base "_law_mix" ["_law_cell_here", "_law_k"] 1 spMix) (DNames : Df P w K mg base "_law_names" ["_law_cell_here"] 2 spNames1) (DDoc : Df P w K mg base "_law_doc" ["_law_script", "_law_start", "_law_names_here"] 4 (spDoc2 K)) (DPaths : Df P w K mg base "_law_paths" ["_law_doc_here", "_law_ahead"] 50 (spPaths 50)) (DAt : Df P w K mg base "_law_at" ["_law_doc_here", "_law_path"] 1 spFound) (DValue : Df P w K mg base "_law_value" ["_law_cell_here", "_law_names_here"] 3 spValue) (DMore : Df P w K mg base "_law_more" ["_law_doc_here", "_law_path", "_law_names_here", "_law_cell_here"] 2 spMore) (DRight : Df P w K mg base "_law_right" ["_law_doc_here", "_law_path", "_law_value_here"] 56 spRightP) : FnOk P w K mg base CX0 60 f fd ["_law_script"] (spLaw K) := by
  obtain ⟨fCell, dCell, kCell, bCell, mCell, GCell⟩ := DCell.ex
  obtain ⟨fMix, dMix, kMix, bMix, mMix, GMix⟩ := DMix.ex
  obtain ⟨fNames, dNames, kNames, bNames, mNames, GNames⟩ := DNames.ex
  obtain ⟨fDoc, dDoc, kDoc, bDoc, mDoc, GDoc⟩ := DDoc.ex
  obtain ⟨fPaths, dPaths, kPaths, bPaths, mPaths, GPaths⟩ := DPaths.ex
  obtain ⟨fAt, dAt, kAt, bAt, mAt, GAt⟩ := DAt.ex
  obtain ⟨fValue, dValue, kValue, bValue, mValue, GValue⟩ := DValue.ex
  obtain ⟨fMore, dMore, kMore, bMore, mMore, GMore⟩ := DMore.ex
  obtain ⟨fRight, dRight, kRight, bRight, mRight, GRight⟩ := DRight.ex
  refine F.ok scLaw (fun vs H Q E h => ?_) (fun cdv A outer s H vs Q E hr h => ?_)
  · obtain ⟨a, ns, rfl, hS, hlen, q⟩ := h
    rfl
  · obtain ⟨a, ns, rfl, hS, hlen, q⟩ := h
    have nd := scLaw.nd
    have hu := hu_of hr
    have hrCell : Room 1 _ := hr.mono (by first | decide | omega)
    have hrMix : Room 1 _ := hr.mono (by first | decide | omega)
    have hrNames : Room 2 _ := hr.mono (by first | decide | omega)
    have hrDoc : Room 4 _ := hr.mono (by first | decide | omega)
    have hrPaths : Room 50 _ := hr.mono (by first | decide | omega)
    have hrAt : Room 1 _ := hr.mono (by first | decide | omega)
    have hrValue : Room 3 _ := hr.mono (by first | decide | omega)
    have hrMore : Room 2 _ := hr.mono (by first | decide | omega)
    have hrRight : Room 56 _ := hr.mono (by first | decide | omega)
    refine ⟨_, (pss_cons (ps_set (i := 1) nd rfl (Or.inl rfl) (pe_call GNames hrNames rfl mNames kNames bNames .nil pass0 (pa_cons (pe_call GCell hrCell rfl mCell kCell bCell .nil pass0 (pa_cons (pv 0) (pa_cons pe_int pa_nil))) pa_nil)))
      (pss_cons (ps_asg (pe_call GDoc hrDoc rfl mDoc kDoc bDoc .nil pass0 (pa_cons (pv 0) (pa_cons pe_int (pa_cons (pv 1) pa_nil)))) (pg_tup rfl (pgs_cons (pg_name (i := 2) nd rfl (Or.inl rfl)) (pgs_cons (pg_name (i := 3) nd rfl (Or.inl rfl)) pgs_nil))))
      (pss_cons (ps_set (i := 4) nd rfl (Or.inl rfl) (pe_call GCell hrCell rfl mCell kCell bCell .nil pass0 (pa_cons (pv 0) (pa_cons pe_int pa_nil))))
      (pss_cons (ps_set (i := 5) nd rfl (Or.inl rfl) (pe_call GPaths hrPaths rfl mPaths kPaths bPaths .nil pass0 (pa_cons (pv 2) (pa_cons (pe_tup pa_nil) pa_nil))))
      (pss_cons (ps_set (i := 6) nd rfl (Or.inl rfl) (pe_call GValue hrValue rfl mValue kValue bValue .nil pass0 (pa_cons (pv 4) (pa_cons (pv 1) pa_nil))))
      (pss_cons (ps_if (pt_cmpR op_eq (pe_op op_mod (pe_call GMix hrMix rfl mMix kMix bMix .nil pass0 (pa_cons (pv 4) (pa_cons pe_int pa_nil))) pe_int) pe_int (nomark _)) (pss_one (ps_set (i := 6) nd rfl (Or.inl rfl) (pe_call GAt hrAt rfl mAt kAt bAt .nil pass0 (pa_cons (pv 2) (pa_cons (pe_ix (r := rIxL K) ix_list (pv 5) (pe_op op_mod (pe_call GMix hrMix rfl mMix kMix bMix .nil pass0 (pa_cons (pv 4) (pa_cons pe_int pa_nil))) (pe_callB call_len_seq rfl T.len PySem.boot_len (pa_cons (pv 5) pa_nil))) (fun _ _ => rfl)) pa_nil))))) pss_nil)
      (pss_cons (ps_for PassesOwn.never rfl (pi_range1 rfl T.range (pa_cons (pe_callB call_len_seq rfl T.len PySem.boot_len (pa_cons (pv 5) pa_nil)) pa_nil)) (pg_name (i := 7) nd rfl (Or.inl rfl)) (pss_cons (ps_if (pt_not (pt_val (pe_call GRight hrRight rfl mRight kRight bRight .nil pass0 (pa_cons (pv 2) (pa_cons (pe_ix (r := rIxL K) ix_list (pv 5) (pv 7) (fun _ _ => rfl)) (pa_cons (pv 6) pa_nil)))))) (pss_one (ps_ret pe_bl)) pss_nil)
      (pss_one (ps_if (pt_not (pt_val (pe_call GRight hrRight rfl mRight kRight bRight .nil pass0 (pa_cons (pv 2) (pa_cons (pe_call GMore hrMore rfl mMore kMore bMore .nil pass0 (pa_cons (pv 2) (pa_cons (pe_ix (r := rIxL K) ix_list (pv 5) (pv 7) (fun _ _ => rfl)) (pa_cons (pv 1) (pa_cons (pe_op op_add (pv 4) (pe_op op_mul pe_int (pv 7))) pa_nil))))) (pa_cons (pv 6) pa_nil)))))) (pss_one (ps_ret pe_bl)) pss_nil))))
      (pss_one (ps_ret (pe_cmpR op_eq (pe_callB call_len_seq rfl T.len PySem.boot_len (pa_cons (pv 5) pa_nil)) (pv 3) (nomark _))))))))))), ?_⟩
    refine ⟨_, rfl, a, ns, 0, rfl, hS, fun c0 _ => ⟨c0, rfl, fun n ys H1 s1 nn hn l6 nd0 ny => ?_⟩⟩
    refine ⟨_, rfl, _, rfl, a, n, ns, 4, ys, rfl, s1.seq hS, hlen, by decide, hn, by omega, ny, fun t d H2 made ht dsz _ => ?_⟩
    refine ⟨t, _, rfl, SqT.of ht, rfl, _, _, rfl, _, _, rfl, rfl, ?_⟩
    have dd : d.deep ≤ 24 := Nat.le_trans (Dc.deep_size d) dsz
    have dsl : d.slim := Dc.slim_of d (by omega)
    have sH2 := s1.trans made.same
    have at2 : ∀ {Hx : Hp}, Same H2 Hx → d.At Hx := fun s => Dc.at_same s made.at_
    refine ⟨_, rfl, a, ns, 1, rfl, sH2.seq hS, fun c1 _ => ?_⟩
    refine ⟨_, rfl, Nat.zero_le _, fun e0 he => ?_⟩
    have s4 := Same.new (o := .tup []) he
    refine ⟨d, e0, [], rfl, at2 s4, made.ok, dsl, by omega, upd_same, by simp; omega, fun p ps H5 s5 np hp lp vp => ?_⟩
    have s25 := s4.trans s5
    have dp := Dc.size_pos d
    refine ⟨_, rfl, _, rfl, c1, n, ys, rfl, (made.same.trans s25) _ _ hn, l6, nd0, fun v H6 s56 vat vsz => ?_⟩
    refine ⟨_, rfl, c1, 7, rfl, by decide, fun r7 _ _ => ⟨_, _, rfl, rfl, (by show (0 : Int) < _; decide), rfl, _, rfl, ite2 (fun _ => ?_) (fun _ => ?_)⟩⟩
    · refine ⟨_, rfl, _, rfl, _, rfl, c1, 6, rfl, by decide, fun r6 _ _ => ⟨_, rfl, p, _, rfl, .inl (SqL.of (s56 _ _ hp)), _, _, rfl, rfl, (by show (0 : Int) < ((ps.map V.ref).length : Int); rw [List.length_map, lp]; omega), ?_⟩⟩
      have m := mod_b r6 (n := ((ps.map V.ref).length : Int)) (by rw [List.length_map, lp]; omega)
      obtain ⟨v0, hv0, mv0⟩ := pick_mem (xs := ps.map V.ref) m.1 m.2
      obtain ⟨z0, hz0, rfl⟩ := List.mem_map.mp mv0
      obtain ⟨zs0, ez0, sz0⟩ := vp z0 hz0
      rw [List.nil_append] at ez0
      obtain ⟨x0, hx0⟩ := Option.isSome_iff_exists.mp sz0
      obtain ⟨st0, lz0, _⟩ := Dc.sub_step made.ok hx0
      refine ⟨p, _, _, _, rfl, rfl, SqL.of (s56 _ _ hp), hv0, d, z0, zs0, x0, rfl, at2 (s25.trans s56), s56 _ _ ez0, st0, hx0, ?_⟩
      have P0 := Dc.PartOf.sub hx0
      have vat0 := P0.at_ (at2 (s25.trans s56))
      have vsz0 : x0.size ≤ 24 := Nat.le_trans P0.size dsz
      clear vat vsz
      obtain ⟨v, hv⟩ : ∃ v, v = x0 := ⟨_, rfl⟩
      rw [← hv] at vat0 vsz0 ⊢
      have vat := vat0
      have vsz := vsz0
      have vat5 : ∀ {Hx : Hp}, Same H6 Hx → v.At Hx := fun s => Dc.at_same s vat
      refine ⟨_, rfl, p, _, rfl, .inl (SqL.of (s56 _ _ hp)), ?_⟩
      have lpv : (ps.map V.ref).length = d.size := by rw [List.length_map, lp]
      refine ⟨_, rfl, by omega, by omega, for_range (lo := 0) (n := (ps.map V.ref).length) (fun i σ Hi => Ex1_2 (fun (o7 : Option V) => σ = [some (.ref a), some (.ref n), some d.val, some (.int (d.size : Int)), some (.int c1), some (.ref p), some v.val, o7]) (fun (o7 : Option V) => Same H6 Hi)) ⟨none, rfl, Same.refl _⟩ ?_ ?_⟩
      · rintro i σ Hi hi ⟨o7, rfl, si⟩
        have s2i := (s25.trans s56).trans si
        obtain ⟨z, hz⟩ : ∃ z, ps[i]? = some z := ⟨_, List.getElem?_eq_getElem (by rw [List.length_map] at hi; exact hi)⟩
        have hzv : (ps.map V.ref)[i]? = some (.ref z) := by rw [List.getElem?_map, hz]; rfl
        obtain ⟨zs, ez, sz⟩ := vp z (List.mem_of_getElem? hz)
        rw [List.nil_append] at ez
        obtain ⟨x, hx⟩ := Option.isSome_iff_exists.mp sz
        obtain ⟨st, lz, _⟩ := Dc.sub_step made.ok hx
        have at0 : atI (ps.map V.ref) (0 + (i : Int)) = some (.ref z) := by rw [Int.zero_add]; exact atI_nat hzv
        have s5i := s56.trans si
        refine ⟨_, rfl, _, rfl, _, rfl, p, _, _, _, rfl, rfl, SqL.of (s5i _ _ hp), at0, _, rfl, d, v, z, zs, rfl, at2 s2i, dsz, vat5 si, by omega, s5i _ _ ez, st, fun H7 s7 => ⟨_, rfl, iteBF rfl ?_⟩⟩
        have s67 := si.trans s7
        have s57 := s56.trans s67
        refine ⟨_, rfl, _, rfl, _, rfl, _, rfl, p, _, _, _, rfl, rfl, SqL.of (s57 _ _ hp), at0, _, rfl, _, rfl, _, rfl, _, _, rfl, rfl, .inl ⟨by decide, by decide⟩, _, _, rfl, rfl, d, z, n, zs, ys, _, x, rfl, at2 (s25.trans s57), dsz, s57 _ _ ez, st, by omega, hx, (made.same.trans (s25.trans s57)) _ _ hn, l6, ny, fun w u H8 s8 hw su => ?_⟩
        have s68 := s67.trans s8
        exact ⟨_, rfl, d, v, w, zs ++ [u], rfl, at2 (s25.trans (s56.trans s68)), dsz, vat5 s68, by omega, hw, (fun y hy => (List.mem_append.mp hy).elim (st y) fun h => by rw [List.mem_singleton.mp h]; exact su), fun H9 s9 => ⟨_, rfl, iteBF rfl ⟨_, rfl, s68.trans s9⟩⟩⟩
      · rintro σ Hi ⟨o7, rfl, si⟩
        refine ⟨_, rfl, p, _, rfl, .inl (SqL.of ((s56.trans si) _ _ hp)), _, rfl, rfl, ?_⟩
        have e : decide (V.int ((ps.map V.ref).length : Int) = V.int (d.size : Int)) = true := decide_eq_true (by rw [List.length_map, lp])
        have := q Hi
        rw [← e] at this
        exact this
    · skip
      have vat5 : ∀ {Hx : Hp}, Same H6 Hx → v.At Hx := fun s => Dc.at_same s vat
      refine ⟨_, rfl, p, _, rfl, .inl (SqL.of (s56 _ _ hp)), ?_⟩
      have lpv : (ps.map V.ref).length = d.size := by rw [List.length_map, lp]
      refine ⟨_, rfl, by omega, by omega, for_range (lo := 0) (n := (ps.map V.ref).length) (fun i σ Hi => Ex1_2 (fun (o7 : Option V) => σ = [some (.ref a), some (.ref n), some d.val, some (.int (d.size : Int)), some (.int c1), some (.ref p), some v.val, o7]) (fun (o7 : Option V) => Same H6 Hi)) ⟨none, rfl, Same.refl _⟩ ?_ ?_⟩
      · rintro i σ Hi hi ⟨o7, rfl, si⟩
        have s2i := (s25.trans s56).trans si
        obtain ⟨z, hz⟩ : ∃ z, ps[i]? = some z := ⟨_, List.getElem?_eq_getElem (by rw [List.length_map] at hi; exact hi)⟩
        have hzv : (ps.map V.ref)[i]? = some (.ref z) := by rw [List.getElem?_map, hz]; rfl
        obtain ⟨zs, ez, sz⟩ := vp z (List.mem_of_getElem? hz)
        rw [List.nil_append] at ez
        obtain ⟨x, hx⟩ := Option.isSome_iff_exists.mp sz
        obtain ⟨st, lz, _⟩ := Dc.sub_step made.ok hx
        have at0 : atI (ps.map V.ref) (0 + (i : Int)) = some (.ref z) := by rw [Int.zero_add]; exact atI_nat hzv
        have s5i := s56.trans si
        refine ⟨_, rfl, _, rfl, _, rfl, p, _, _, _, rfl, rfl, SqL.of (s5i _ _ hp), at0, _, rfl, d, v, z, zs, rfl, at2 s2i, dsz, vat5 si, by omega, s5i _ _ ez, st, fun H7 s7 => ⟨_, rfl, iteBF rfl ?_⟩⟩
        have s67 := si.trans s7
        have s57 := s56.trans s67
        refine ⟨_, rfl, _, rfl, _, rfl, _, rfl, p, _, _, _, rfl, rfl, SqL.of (s57 _ _ hp), at0, _, rfl, _, rfl, _, rfl, _, _, rfl, rfl, .inl ⟨by decide, by decide⟩, _, _, rfl, rfl, d, z, n, zs, ys, _, x, rfl, at2 (s25.trans s57), dsz, s57 _ _ ez, st, by omega, hx, (made.same.trans (s25.trans s57)) _ _ hn, l6, ny, fun w u H8 s8 hw su => ?_⟩
        have s68 := s67.trans s8
        exact ⟨_, rfl, d, v, w, zs ++ [u], rfl, at2 (s25.trans (s56.trans s68)), dsz, vat5 s68, by omega, hw, (fun y hy => (List.mem_append.mp hy).elim (st y) fun h => by rw [List.mem_singleton.mp h]; exact su), fun H9 s9 => ⟨_, rfl, iteBF rfl ⟨_, rfl, s68.trans s9⟩⟩⟩
      · rintro σ Hi ⟨o7, rfl, si⟩
        refine ⟨_, rfl, p, _, rfl, .inl (SqL.of ((s56.trans si) _ _ hp)), _, rfl, rfl, ?_⟩
        have e : decide (V.int ((ps.map V.ref).length : Int) = V.int (d.size : Int)) = true := decide_eq_true (by rw [List.length_map, lp])
        have := q Hi
        rw [← e] at this
        exact this
end
end K21

set_option Elab.async false
set_option linter.all false
set_option maxRecDepth 100000
set_option maxHeartbeats 40000000
namespace K21
open PySem L2
theorem len_1 (us : List Value) (h : us.length = 1) : ∃ x0, us = [x0] := by
  rcases us with _ | ⟨x0, us⟩ <;> simp only [List.length_cons, List.length_nil] at h <;> try omega
  rcases us with _ | ⟨y, us⟩ <;> simp only [List.length_cons, List.length_nil] at h <;> try omega
  exact ⟨x0, rfl⟩
theorem len_2 (us : List Value) (h : us.length = 2) : ∃ x0 x1, us = [x0, x1] := by
  rcases us with _ | ⟨x0, us⟩ <;> simp only [List.length_cons, List.length_nil] at h <;> try omega
  rcases us with _ | ⟨x1, us⟩ <;> simp only [List.length_cons, List.length_nil] at h <;> try omega
  rcases us with _ | ⟨y, us⟩ <;> simp only [List.length_cons, List.length_nil] at h <;> try omega
  exact ⟨x0, x1, rfl⟩
theorem len_3 (us : List Value) (h : us.length = 3) : ∃ x0 x1 x2, us = [x0, x1, x2] := by
  rcases us with _ | ⟨x0, us⟩ <;> simp only [List.length_cons, List.length_nil] at h <;> try omega
  rcases us with _ | ⟨x1, us⟩ <;> simp only [List.length_cons, List.length_nil] at h <;> try omega
  rcases us with _ | ⟨x2, us⟩ <;> simp only [List.length_cons, List.length_nil] at h <;> try omega
  rcases us with _ | ⟨y, us⟩ <;> simp only [List.length_cons, List.length_nil] at h <;> try omega
  exact ⟨x0, x1, x2, rfl⟩
theorem len_4 (us : List Value) (h : us.length = 4) : ∃ x0 x1 x2 x3, us = [x0, x1, x2, x3] := by
  rcases us with _ | ⟨x0, us⟩ <;> simp only [List.length_cons, List.length_nil] at h <;> try omega
  rcases us with _ | ⟨x1, us⟩ <;> simp only [List.length_cons, List.length_nil] at h <;> try omega
  rcases us with _ | ⟨x2, us⟩ <;> simp only [List.length_cons, List.length_nil] at h <;> try omega
  rcases us with _ | ⟨x3, us⟩ <;> simp only [List.length_cons, List.length_nil] at h <;> try omega
  rcases us with _ | ⟨y, us⟩ <;> simp only [List.length_cons, List.length_nil] at h <;> try omega
  exact ⟨x0, x1, x2, x3, rfl⟩
theorem all_mk {l : PySem.W.OpenLaw} {w : World} {K : PySem.W.Frag} {h : Heap} {mg : Str → Option Value} {fa f1 f2 f3 f4 f5 f6 f7 f8 f9 f10 f11 f12 f13 f14 f15 f16 f17 f18 f19 f20 f21 f22 f23 f24 f25 f26 f27 f28 : Addr} (X : K.In h) (G : h.Ns mainGlobals mg) (hfa : mg "law" = some (.ref fa))
    {od1 an1 od2 an2 od3 an3 od4 an4 od5 an5 od6 an6 od7 an7 od8 an8 od9 an9 od10 an10 od11 an11 od12 an12 od13 an13 od14 an14 od15 an15 od16 an16 od17 an17 od18 an18 od19 an19 od20 an20 od21 an21 od22 an22 od23 an23 od24 an24 od25 an25 od26 an26 od27 an27 od28 an28 : Option Addr} {sl1 sl2 sl3 sl4 sl5 sl6 sl7 sl8 sl9 sl10 sl11 sl12 sl13 sl14 sl15 sl16 sl17 sl18 sl19 sl20 sl21 sl22 sl23 sl24 sl25 sl26 sl27 sl28 : Array (Option Value)} {oc1 kV1 dc1 pm1 cd1 ct1 oc2 kV2 dc2 pm2 cd2 ct2 oc3 kV3 dc3 pm3 cd3 ct3 oc4 kV4 dc4 pm4 cd4 ct4 oc5 kV5 dc5 pm5 cd5 ct5 oc6 kV6 dc6 pm6 cd6 ct6 oc7 kV7 dc7 pm7 cd7 ct7 oc8 kV8 dc8 pm8 cd8 ct8 oc9 kV9 dc9 pm9 cd9 ct9 oc10 kV10 dc10 pm10 cd10 ct10 oc11 kV11 dc11 pm11 cd11 ct11 oc12 kV12 dc12 pm12 cd12 ct12 oc13 kV13 dc13 pm13 cd13 ct13 oc14 kV14 dc14 pm14 cd14 ct14 oc15 kV15 dc15 pm15 cd15 ct15 oc16 kV16 dc16 pm16 cd16 ct16 oc17 kV17 dc17 pm17 cd17 ct17 oc18 kV18 dc18 pm18 cd18 ct18 oc19 kV19 dc19 pm19 cd19 ct19 oc20 kV20 dc20 pm20 cd20 ct20 oc21 kV21 dc21 pm21 cd21 ct21 oc22 kV22 dc22 pm22 cd22 ct22 oc23 kV23 dc23 pm23 cd23 ct23 oc24 kV24 dc24 pm24 cd24 ct24 oc25 kV25 dc25 pm25 cd25 ct25 oc26 kV26 dc26 pm26 cd26 ct26 oc27 kV27 dc27 pm27 cd27 ct27 oc28 kV28 dc28 pm28 cd28 ct28 : Value}
    {cBoughError cNoPart cNoRow cNoFit cNoPatch cClash cNoText cNoDeed : Addr}
    (a1 : PySem.W.nsIn K mainGlobals "steps_of" = some (some (.ref f1))) (l1 : K.lookup f1 = some ⟨oc1, od1, .func (PySem.W.fnOf "steps_of" "steps_of" (defArgs sStepsOf) (defBody sStepsOf) (defScope sStepsOf) .none kV1 dc1 pm1 an1 cd1 ct1), sl1⟩) (c1 : PySem.W.codeIn K cd1 "steps_of" = true) (k1 : PySem.W.keepIn K (.ref f1) = true)
    (a2 : PySem.W.nsIn K mainGlobals "outer_copy" = some (some (.ref f2))) (l2 : K.lookup f2 = some ⟨oc2, od2, .func (PySem.W.fnOf "outer_copy" "outer_copy" (defArgs sOuterCopy) (defBody sOuterCopy) (defScope sOuterCopy) .none kV2 dc2 pm2 an2 cd2 ct2), sl2⟩) (c2 : PySem.W.codeIn K cd2 "outer_copy" = true) (k2 : PySem.W.keepIn K (.ref f2) = true)
    (a3 : PySem.W.nsIn K mainGlobals "copy_of" = some (some (.ref f3))) (l3 : K.lookup f3 = some ⟨oc3, od3, .func (PySem.W.fnOf "copy_of" "copy_of" (defArgs sCopyOf) (defBody sCopyOf) (defScope sCopyOf) .none kV3 dc3 pm3 an3 cd3 ct3), sl3⟩) (c3 : PySem.W.codeIn K cd3 "copy_of" = true) (k3 : PySem.W.keepIn K (.ref f3) = true)
    (a4 : PySem.W.nsIn K mainGlobals "holds" = some (some (.ref f4))) (l4 : K.lookup f4 = some ⟨oc4, od4, .func (PySem.W.fnOf "holds" "holds" (defArgs sHolds) (defBody sHolds) (defScope sHolds) .none kV4 dc4 pm4 an4 cd4 ct4), sl4⟩) (c4 : PySem.W.codeIn K cd4 "holds" = true) (k4 : PySem.W.keepIn K (.ref f4) = true)
    (a5 : PySem.W.nsIn K mainGlobals "found_at" = some (some (.ref f5))) (l5 : K.lookup f5 = some ⟨oc5, od5, .func (PySem.W.fnOf "found_at" "found_at" (defArgs sFoundAt) (defBody sFoundAt) (defScope sFoundAt) .none kV5 dc5 pm5 an5 cd5 ct5), sl5⟩) (c5 : PySem.W.codeIn K cd5 "found_at" = true) (k5 : PySem.W.keepIn K (.ref f5) = true)
    (a6 : PySem.W.nsIn K mainGlobals "holder_of" = some (some (.ref f6))) (l6 : K.lookup f6 = some ⟨oc6, od6, .func (PySem.W.fnOf "holder_of" "holder_of" (defArgs sHolderOf) (defBody sHolderOf) (defScope sHolderOf) .none kV6 dc6 pm6 an6 cd6 ct6), sl6⟩) (c6 : PySem.W.codeIn K cd6 "holder_of" = true) (k6 : PySem.W.keepIn K (.ref f6) = true)
    (a7 : PySem.W.nsIn K mainGlobals "has_room" = some (some (.ref f7))) (l7 : K.lookup f7 = some ⟨oc7, od7, .func (PySem.W.fnOf "has_room" "has_room" (defArgs sHasRoom) (defBody sHasRoom) (defScope sHasRoom) .none kV7 dc7 pm7 an7 cd7 ct7), sl7⟩) (c7 : PySem.W.codeIn K cd7 "has_room" = true) (k7 : PySem.W.keepIn K (.ref f7) = true)
    (a8 : PySem.W.nsIn K mainGlobals "put_at" = some (some (.ref f8))) (l8 : K.lookup f8 = some ⟨oc8, od8, .func (PySem.W.fnOf "put_at" "put_at" (defArgs sPutAt) (defBody sPutAt) (defScope sPutAt) .none kV8 dc8 pm8 an8 cd8 ct8), sl8⟩) (c8 : PySem.W.codeIn K cd8 "put_at" = true) (k8 : PySem.W.keepIn K (.ref f8) = true)
    (a9 : PySem.W.nsIn K mainGlobals "_law_cell" = some (some (.ref f9))) (l9 : K.lookup f9 = some ⟨oc9, od9, .func (PySem.W.fnOf "_law_cell" "_law_cell" (defArgs sCell) (defBody sCell) (defScope sCell) .none kV9 dc9 pm9 an9 cd9 ct9), sl9⟩) (c9 : PySem.W.codeIn K cd9 "_law_cell" = true) (k9 : PySem.W.keepIn K (.ref f9) = true)
    (a10 : PySem.W.nsIn K mainGlobals "_law_mix" = some (some (.ref f10))) (l10 : K.lookup f10 = some ⟨oc10, od10, .func (PySem.W.fnOf "_law_mix" "_law_mix" (defArgs sMix) (defBody sMix) (defScope sMix) .none kV10 dc10 pm10 an10 cd10 ct10), sl10⟩) (c10 : PySem.W.codeIn K cd10 "_law_mix" = true) (k10 : PySem.W.keepIn K (.ref f10) = true)
    (a11 : PySem.W.nsIn K mainGlobals "_law_names" = some (some (.ref f11))) (l11 : K.lookup f11 = some ⟨oc11, od11, .func (PySem.W.fnOf "_law_names" "_law_names" (defArgs sNames) (defBody sNames) (defScope sNames) .none kV11 dc11 pm11 an11 cd11 ct11), sl11⟩) (c11 : PySem.W.codeIn K cd11 "_law_names" = true) (k11 : PySem.W.keepIn K (.ref f11) = true)
    (a12 : PySem.W.nsIn K mainGlobals "_law_leaf" = some (some (.ref f12))) (l12 : K.lookup f12 = some ⟨oc12, od12, .func (PySem.W.fnOf "_law_leaf" "_law_leaf" (defArgs sLeaf) (defBody sLeaf) (defScope sLeaf) .none kV12 dc12 pm12 an12 cd12 ct12), sl12⟩) (c12 : PySem.W.codeIn K cd12 "_law_leaf" = true) (k12 : PySem.W.keepIn K (.ref f12) = true)
    (a13 : PySem.W.nsIn K mainGlobals "_law_part" = some (some (.ref f13))) (l13 : K.lookup f13 = some ⟨oc13, od13, .func (PySem.W.fnOf "_law_part" "_law_part" (defArgs sPart) (defBody sPart) (defScope sPart) .none kV13 dc13 pm13 an13 cd13 ct13), sl13⟩) (c13 : PySem.W.codeIn K cd13 "_law_part" = true) (k13 : PySem.W.keepIn K (.ref f13) = true)
    (a14 : PySem.W.nsIn K mainGlobals "_law_laid" = some (some (.ref f14))) (l14 : K.lookup f14 = some ⟨oc14, od14, .func (PySem.W.fnOf "_law_laid" "_law_laid" (defArgs sLaid) (defBody sLaid) (defScope sLaid) .none kV14 dc14 pm14 an14 cd14 ct14), sl14⟩) (c14 : PySem.W.codeIn K cd14 "_law_laid" = true) (k14 : PySem.W.keepIn K (.ref f14) = true)
    (a15 : PySem.W.nsIn K mainGlobals "_law_doc" = some (some (.ref f15))) (l15 : K.lookup f15 = some ⟨oc15, od15, .func (PySem.W.fnOf "_law_doc" "_law_doc" (defArgs sDoc) (defBody sDoc) (defScope sDoc) .none kV15 dc15 pm15 an15 cd15 ct15), sl15⟩) (c15 : PySem.W.codeIn K cd15 "_law_doc" = true) (k15 : PySem.W.keepIn K (.ref f15) = true)
    (a16 : PySem.W.nsIn K mainGlobals "_law_copy" = some (some (.ref f16))) (l16 : K.lookup f16 = some ⟨oc16, od16, .func (PySem.W.fnOf "_law_copy" "_law_copy" (defArgs sCopy) (defBody sCopy) (defScope sCopy) .none kV16 dc16 pm16 an16 cd16 ct16), sl16⟩) (c16 : PySem.W.codeIn K cd16 "_law_copy" = true) (k16 : PySem.W.keepIn K (.ref f16) = true)
    (a17 : PySem.W.nsIn K mainGlobals "_law_alike" = some (some (.ref f17))) (l17 : K.lookup f17 = some ⟨oc17, od17, .func (PySem.W.fnOf "_law_alike" "_law_alike" (defArgs sAlike) (defBody sAlike) (defScope sAlike) .none kV17 dc17 pm17 an17 cd17 ct17), sl17⟩) (c17 : PySem.W.codeIn K cd17 "_law_alike" = true) (k17 : PySem.W.keepIn K (.ref f17) = true)
    (a18 : PySem.W.nsIn K mainGlobals "_law_paths" = some (some (.ref f18))) (l18 : K.lookup f18 = some ⟨oc18, od18, .func (PySem.W.fnOf "_law_paths" "_law_paths" (defArgs sPaths) (defBody sPaths) (defScope sPaths) .none kV18 dc18 pm18 an18 cd18 ct18), sl18⟩) (c18 : PySem.W.codeIn K cd18 "_law_paths" = true) (k18 : PySem.W.keepIn K (.ref f18) = true)
    (a19 : PySem.W.nsIn K mainGlobals "_law_at" = some (some (.ref f19))) (l19 : K.lookup f19 = some ⟨oc19, od19, .func (PySem.W.fnOf "_law_at" "_law_at" (defArgs sAt) (defBody sAt) (defScope sAt) .none kV19 dc19 pm19 an19 cd19 ct19), sl19⟩) (c19 : PySem.W.codeIn K cd19 "_law_at" = true) (k19 : PySem.W.keepIn K (.ref f19) = true)
    (a20 : PySem.W.nsIn K mainGlobals "_law_stands" = some (some (.ref f20))) (l20 : K.lookup f20 = some ⟨oc20, od20, .func (PySem.W.fnOf "_law_stands" "_law_stands" (defArgs sStands) (defBody sStands) (defScope sStands) .none kV20 dc20 pm20 an20 cd20 ct20), sl20⟩) (c20 : PySem.W.codeIn K cd20 "_law_stands" = true) (k20 : PySem.W.keepIn K (.ref f20) = true)
    (a21 : PySem.W.nsIn K mainGlobals "_law_value" = some (some (.ref f21))) (l21 : K.lookup f21 = some ⟨oc21, od21, .func (PySem.W.fnOf "_law_value" "_law_value" (defArgs sValue) (defBody sValue) (defScope sValue) .none kV21 dc21 pm21 an21 cd21 ct21), sl21⟩) (c21 : PySem.W.codeIn K cd21 "_law_value" = true) (k21 : PySem.W.keepIn K (.ref f21) = true)
    (a22 : PySem.W.nsIn K mainGlobals "_law_put" = some (some (.ref f22))) (l22 : K.lookup f22 = some ⟨oc22, od22, .func (PySem.W.fnOf "_law_put" "_law_put" (defArgs sPut) (defBody sPut) (defScope sPut) .none kV22 dc22 pm22 an22 cd22 ct22), sl22⟩) (c22 : PySem.W.codeIn K cd22 "_law_put" = true) (k22 : PySem.W.keepIn K (.ref f22) = true)
    (a23 : PySem.W.nsIn K mainGlobals "_law_no_part" = some (some (.ref f23))) (l23 : K.lookup f23 = some ⟨oc23, od23, .func (PySem.W.fnOf "_law_no_part" "_law_no_part" (defArgs sNoPart) (defBody sNoPart) (defScope sNoPart) .none kV23 dc23 pm23 an23 cd23 ct23), sl23⟩) (c23 : PySem.W.codeIn K cd23 "_law_no_part" = true) (k23 : PySem.W.keepIn K (.ref f23) = true)
    (a24 : PySem.W.nsIn K mainGlobals "_law_more" = some (some (.ref f24))) (l24 : K.lookup f24 = some ⟨oc24, od24, .func (PySem.W.fnOf "_law_more" "_law_more" (defArgs sMore) (defBody sMore) (defScope sMore) .none kV24 dc24 pm24 an24 cd24 ct24), sl24⟩) (c24 : PySem.W.codeIn K cd24 "_law_more" = true) (k24 : PySem.W.keepIn K (.ref f24) = true)
    (a25 : PySem.W.nsIn K mainGlobals "_law_spoil" = some (some (.ref f25))) (l25 : K.lookup f25 = some ⟨oc25, od25, .func (PySem.W.fnOf "_law_spoil" "_law_spoil" (defArgs sSpoil) (defBody sSpoil) (defScope sSpoil) .none kV25 dc25 pm25 an25 cd25 ct25), sl25⟩) (c25 : PySem.W.codeIn K cd25 "_law_spoil" = true) (k25 : PySem.W.keepIn K (.ref f25) = true)
    (a26 : PySem.W.nsIn K mainGlobals "_law_asked" = some (some (.ref f26))) (l26 : K.lookup f26 = some ⟨oc26, od26, .func (PySem.W.fnOf "_law_asked" "_law_asked" (defArgs sAsked) (defBody sAsked) (defScope sAsked) .none kV26 dc26 pm26 an26 cd26 ct26), sl26⟩) (c26 : PySem.W.codeIn K cd26 "_law_asked" = true) (k26 : PySem.W.keepIn K (.ref f26) = true)
    (a27 : PySem.W.nsIn K mainGlobals "_law_right" = some (some (.ref f27))) (l27 : K.lookup f27 = some ⟨oc27, od27, .func (PySem.W.fnOf "_law_right" "_law_right" (defArgs sRight) (defBody sRight) (defScope sRight) .none kV27 dc27 pm27 an27 cd27 ct27), sl27⟩) (c27 : PySem.W.codeIn K cd27 "_law_right" = true) (k27 : PySem.W.keepIn K (.ref f27) = true)
    (a28 : PySem.W.nsIn K mainGlobals "law" = some (some (.ref f28))) (l28 : K.lookup f28 = some ⟨oc28, od28, .func (PySem.W.fnOf "law" "law" (defArgs sLaw) (defBody sLaw) (defScope sLaw) .none kV28 dc28 pm28 an28 cd28 ct28), sl28⟩) (c28 : PySem.W.codeIn K cd28 "law" = true) (k28 : PySem.W.keepIn K (.ref f28) = true)
    (z1 : PySem.W.nsIn K mainGlobals "isinstance" = some none)
    (z2 : PySem.W.nsIn K mainGlobals "int" = some none)
    (z3 : PySem.W.nsIn K mainGlobals "bool" = some none)
    (z4 : PySem.W.nsIn K mainGlobals "str" = some none)
    (z5 : PySem.W.nsIn K mainGlobals "list" = some none)
    (z6 : PySem.W.nsIn K mainGlobals "dict" = some none)
    (z7 : PySem.W.nsIn K mainGlobals "tuple" = some none)
    (z8 : PySem.W.nsIn K mainGlobals "len" = some none)
    (z9 : PySem.W.nsIn K mainGlobals "range" = some none)
    (z10 : PySem.W.nsIn K mainGlobals "max" = some none)
    (z11 : PySem.W.nsIn K mainGlobals "min" = some none)
    (z12 : PySem.W.nsIn K mainGlobals "sorted" = some none)
    (z13 : PySem.W.nsIn K mainGlobals "all" = some none)
    (z14 : PySem.W.nsIn K mainGlobals "any" = some none)
    (z15 : PySem.W.nsIn K mainGlobals "reversed" = some none)
    (z16 : PySem.W.nsIn K mainGlobals "ValueError" = some none)
    (z17 : PySem.W.nsIn K mainGlobals "sum" = some none)
    (xaBoughError : PySem.W.nsIn K mainGlobals "BoughError" = some (some (.ref cBoughError)))
    (xaNoPart : PySem.W.nsIn K mainGlobals "NoPart" = some (some (.ref cNoPart)))
    (xaNoRow : PySem.W.nsIn K mainGlobals "NoRow" = some (some (.ref cNoRow)))
    (xaNoFit : PySem.W.nsIn K mainGlobals "NoFit" = some (some (.ref cNoFit)))
    (xaNoPatch : PySem.W.nsIn K mainGlobals "NoPatch" = some (some (.ref cNoPatch)))
    (xaClash : PySem.W.nsIn K mainGlobals "Clash" = some (some (.ref cClash)))
    (xaNoText : PySem.W.nsIn K mainGlobals "NoText" = some (some (.ref cNoText)))
    (xaNoDeed : PySem.W.nsIn K mainGlobals "NoDeed" = some (some (.ref cNoDeed)))
    (qXNoPart : excInB K cNoPart bmV "ValueError.__new__" = true)
    (qXBoughError : excInB K cBoughError bmV "ValueError.__new__" = true)
    (sX : subIn K cNoPart cBoughError = true)
    (sXNoPart : subIn K cNoPart cNoPart = true)
    (oNoPart : PySem.W.kitOne K (.ref cNoPart) (.ref cNoPart) = some true)
    (oNoRow : PySem.W.kitOne K (.ref cNoPart) (.ref cNoRow) = some false)
    (oNoFit : PySem.W.kitOne K (.ref cNoPart) (.ref cNoFit) = some false)
    (oNoPatch : PySem.W.kitOne K (.ref cNoPart) (.ref cNoPatch) = some false)
    (oClash : PySem.W.kitOne K (.ref cNoPart) (.ref cClash) = some false)
    (oNoText : PySem.W.kitOne K (.ref cNoPart) (.ref cNoText) = some false)
    (oNoDeed : PySem.W.kitOne K (.ref cNoPart) (.ref cNoDeed) = some false)
    (oVE : PySem.W.kitOne K (.ref cNoPart) (.type "ValueError") = some true)
    (kxa : PySem.W.findIn K (.ref cNoPart) "__getattribute__" = some (some (.builtin "BaseException.__getattribute__")))
    (kxn : PySem.W.findIn K (.ref cNoPart) "__getattr__" = some none)
    (kx1 : PySem.W.hasDictIn K cNoPart = true)
    (kx2 : PySem.W.findIn K (.ref cNoPart) "__class__" = some (some (.builtin "object.__class__")))
    (kx3 : PySem.W.specialIn K (.builtin "object.__class__") "__get__" = some (some (.builtin "getset_descriptor.__get__")))
    (kx4 : PySem.W.takesIn K (.builtin "object.__class__") = some true)
    (kx5 : PySem.W.mroIn K cNoPart (.type "object") = some true)
    : ∃ fd : FuncData, (∀ (s : Shared) (v : Value), BindsTo s fd ⟨[v], []⟩ [("_law_script", v)]) ∧ ∀ base : Heap, K.In base → base.Ns mainGlobals mg → FnOk l.prog w K mg base CX0 60 fa fd ["_law_script"] (spLaw K) := by
  have e := hfa.symm.trans (PySem.W.mg_of X G a28)
  cases e
  have T : Txt mg := ⟨PySem.W.mg_none_of X G z1, PySem.W.mg_none_of X G z2, PySem.W.mg_none_of X G z3, PySem.W.mg_none_of X G z4, PySem.W.mg_none_of X G z5, PySem.W.mg_none_of X G z6, PySem.W.mg_none_of X G z7, PySem.W.mg_none_of X G z8, PySem.W.mg_none_of X G z9, PySem.W.mg_none_of X G z10, PySem.W.mg_none_of X G z11, PySem.W.mg_none_of X G z12, PySem.W.mg_none_of X G z13, PySem.W.mg_none_of X G z14, PySem.W.mg_none_of X G z15, PySem.W.mg_none_of X G z16, PySem.W.mg_none_of X G z17⟩
  have F1 := fun_mk (st := sStepsOf) l1 c1 k1
  have b1 := F1.binds (ps := ["doc"]) fun _ _ _ _ _ _ us hl => by obtain ⟨x0, rfl⟩ := len_1 us hl; rfl
  have m1 := PySem.W.mg_of X G a1
  have F2 := fun_mk (st := sOuterCopy) l2 c2 k2
  have b2 := F2.binds (ps := ["doc"]) fun _ _ _ _ _ _ us hl => by obtain ⟨x0, rfl⟩ := len_1 us hl; rfl
  have m2 := PySem.W.mg_of X G a2
  have F3 := fun_mk (st := sCopyOf) l3 c3 k3
  have b3 := F3.binds (ps := ["doc"]) fun _ _ _ _ _ _ us hl => by obtain ⟨x0, rfl⟩ := len_1 us hl; rfl
  have m3 := PySem.W.mg_of X G a3
  have F4 := fun_mk (st := sHolds) l4 c4 k4
  have b4 := F4.binds (ps := ["doc", "step"]) fun _ _ _ _ _ _ us hl => by obtain ⟨x0, x1, rfl⟩ := len_2 us hl; rfl
  have m4 := PySem.W.mg_of X G a4
  have F5 := fun_mk (st := sFoundAt) l5 c5 k5
  have b5 := F5.binds (ps := ["doc", "path"]) fun _ _ _ _ _ _ us hl => by obtain ⟨x0, x1, rfl⟩ := len_2 us hl; rfl
  have m5 := PySem.W.mg_of X G a5
  have F6 := fun_mk (st := sHolderOf) l6 c6 k6
  have b6 := F6.binds (ps := ["doc", "path"]) fun _ _ _ _ _ _ us hl => by obtain ⟨x0, x1, rfl⟩ := len_2 us hl; rfl
  have m6 := PySem.W.mg_of X G a6
  have F7 := fun_mk (st := sHasRoom) l7 c7 k7
  have b7 := F7.binds (ps := ["holder", "step"]) fun _ _ _ _ _ _ us hl => by obtain ⟨x0, x1, rfl⟩ := len_2 us hl; rfl
  have m7 := PySem.W.mg_of X G a7
  have F8 := fun_mk (st := sPutAt) l8 c8 k8
  have b8 := F8.binds (ps := ["doc", "path", "value"]) fun _ _ _ _ _ _ us hl => by obtain ⟨x0, x1, x2, rfl⟩ := len_3 us hl; rfl
  have m8 := PySem.W.mg_of X G a8
  have F9 := fun_mk (st := sCell) l9 c9 k9
  have b9 := F9.binds (ps := ["_law_script", "_law_k"]) fun _ _ _ _ _ _ us hl => by obtain ⟨x0, x1, rfl⟩ := len_2 us hl; rfl
  have m9 := PySem.W.mg_of X G a9
  have F10 := fun_mk (st := sMix) l10 c10 k10
  have b10 := F10.binds (ps := ["_law_cell_here", "_law_k"]) fun _ _ _ _ _ _ us hl => by obtain ⟨x0, x1, rfl⟩ := len_2 us hl; rfl
  have m10 := PySem.W.mg_of X G a10
  have F11 := fun_mk (st := sNames) l11 c11 k11
  have b11 := F11.binds (ps := ["_law_cell_here"]) fun _ _ _ _ _ _ us hl => by obtain ⟨x0, rfl⟩ := len_1 us hl; rfl
  have m11 := PySem.W.mg_of X G a11
  have F12 := fun_mk (st := sLeaf) l12 c12 k12
  have b12 := F12.binds (ps := ["_law_cell_here", "_law_k"]) fun _ _ _ _ _ _ us hl => by obtain ⟨x0, x1, rfl⟩ := len_2 us hl; rfl
  have m12 := PySem.W.mg_of X G a12
  have F13 := fun_mk (st := sPart) l13 c13 k13
  have b13 := F13.binds (ps := ["_law_cell_here", "_law_deep", "_law_most"]) fun _ _ _ _ _ _ us hl => by obtain ⟨x0, x1, x2, rfl⟩ := len_3 us hl; rfl
  have m13 := PySem.W.mg_of X G a13
  have F14 := fun_mk (st := sLaid) l14 c14 k14
  have b14 := F14.binds (ps := ["_law_holder", "_law_part_here", "_law_names_here", "_law_number"]) fun _ _ _ _ _ _ us hl => by obtain ⟨x0, x1, x2, x3, rfl⟩ := len_4 us hl; rfl
  have m14 := PySem.W.mg_of X G a14
  have F15 := fun_mk (st := sDoc) l15 c15 k15
  have b15 := F15.binds (ps := ["_law_script", "_law_start", "_law_names_here"]) fun _ _ _ _ _ _ us hl => by obtain ⟨x0, x1, x2, rfl⟩ := len_3 us hl; rfl
  have m15 := PySem.W.mg_of X G a15
  have F16 := fun_mk (st := sCopy) l16 c16 k16
  have b16 := F16.binds (ps := ["_law_doc_here"]) fun _ _ _ _ _ _ us hl => by obtain ⟨x0, rfl⟩ := len_1 us hl; rfl
  have m16 := PySem.W.mg_of X G a16
  have F17 := fun_mk (st := sAlike) l17 c17 k17
  have b17 := F17.binds (ps := ["_law_one", "_law_other"]) fun _ _ _ _ _ _ us hl => by obtain ⟨x0, x1, rfl⟩ := len_2 us hl; rfl
  have m17 := PySem.W.mg_of X G a17
  have F18 := fun_mk (st := sPaths) l18 c18 k18
  have b18 := F18.binds (ps := ["_law_doc_here", "_law_ahead"]) fun _ _ _ _ _ _ us hl => by obtain ⟨x0, x1, rfl⟩ := len_2 us hl; rfl
  have m18 := PySem.W.mg_of X G a18
  have F19 := fun_mk (st := sAt) l19 c19 k19
  have b19 := F19.binds (ps := ["_law_doc_here", "_law_path"]) fun _ _ _ _ _ _ us hl => by obtain ⟨x0, x1, rfl⟩ := len_2 us hl; rfl
  have m19 := PySem.W.mg_of X G a19
  have F20 := fun_mk (st := sStands) l20 c20 k20
  have b20 := F20.binds (ps := ["_law_doc_here", "_law_path"]) fun _ _ _ _ _ _ us hl => by obtain ⟨x0, x1, rfl⟩ := len_2 us hl; rfl
  have m20 := PySem.W.mg_of X G a20
  have F21 := fun_mk (st := sValue) l21 c21 k21
  have b21 := F21.binds (ps := ["_law_cell_here", "_law_names_here"]) fun _ _ _ _ _ _ us hl => by obtain ⟨x0, x1, rfl⟩ := len_2 us hl; rfl
  have m21 := PySem.W.mg_of X G a21
  have F22 := fun_mk (st := sPut) l22 c22 k22
  have b22 := F22.binds (ps := ["_law_doc_here", "_law_path", "_law_value_here"]) fun _ _ _ _ _ _ us hl => by obtain ⟨x0, x1, x2, rfl⟩ := len_3 us hl; rfl
  have m22 := PySem.W.mg_of X G a22
  have F23 := fun_mk (st := sNoPart) l23 c23 k23
  have b23 := F23.binds (ps := ["_law_e"]) fun _ _ _ _ _ _ us hl => by obtain ⟨x0, rfl⟩ := len_1 us hl; rfl
  have m23 := PySem.W.mg_of X G a23
  have F24 := fun_mk (st := sMore) l24 c24 k24
  have b24 := F24.binds (ps := ["_law_doc_here", "_law_path", "_law_names_here", "_law_cell_here"]) fun _ _ _ _ _ _ us hl => by obtain ⟨x0, x1, x2, x3, rfl⟩ := len_4 us hl; rfl
  have m24 := PySem.W.mg_of X G a24
  have F25 := fun_mk (st := sSpoil) l25 c25 k25
  have b25 := F25.binds (ps := ["_law_doc_here"]) fun _ _ _ _ _ _ us hl => by obtain ⟨x0, rfl⟩ := len_1 us hl; rfl
  have m25 := PySem.W.mg_of X G a25
  have F26 := fun_mk (st := sAsked) l26 c26 k26
  have b26 := F26.binds (ps := ["_law_doc_here", "_law_path", "_law_value_here"]) fun _ _ _ _ _ _ us hl => by obtain ⟨x0, x1, x2, rfl⟩ := len_3 us hl; rfl
  have m26 := PySem.W.mg_of X G a26
  have F27 := fun_mk (st := sRight) l27 c27 k27
  have b27 := F27.binds (ps := ["_law_doc_here", "_law_path", "_law_value_here"]) fun _ _ _ _ _ _ us hl => by obtain ⟨x0, x1, x2, rfl⟩ := len_3 us hl; rfl
  have m27 := PySem.W.mg_of X G a27
  have F28 := fun_mk (st := sLaw) l28 c28 k28
  have mXBoughError := PySem.W.mg_of X G xaBoughError
  have mXNoPart := PySem.W.mg_of X G xaNoPart
  have mXNoRow := PySem.W.mg_of X G xaNoRow
  have mXNoFit := PySem.W.mg_of X G xaNoFit
  have mXNoPatch := PySem.W.mg_of X G xaNoPatch
  have mXClash := PySem.W.mg_of X G xaClash
  have mXNoText := PySem.W.mg_of X G xaNoText
  have mXNoDeed := PySem.W.mg_of X G xaNoDeed
  have kitX := (⟨qXNoPart, kxa, kxn, kx1, kx2, kx3, kx4, kx5⟩ : XKit K cNoPart)
  refine ⟨PySem.W.fnOf "law" "law" (defArgs sLaw) (defBody sLaw) (defScope sLaw) .none kV28 dc28 pm28 an28 cd28 ct28, fun s v => .of_eq rfl, fun base _ _ => ?_⟩
  have DCell0 : Df l.prog w K mg base "_law_cell" ["_law_script", "_law_k"] 1 (spCell K) := Df.mk' F9 b9 m9 (ok_Cell F9 T)
  have DMix1 : Df l.prog w K mg base "_law_mix" ["_law_cell_here", "_law_k"] 1 spMix := Df.mk' F10 b10 m10 (okW_Mix F10 T)
  have DNames2 : Df l.prog w K mg base "_law_names" ["_law_cell_here"] 2 spNames1 := Df.mk' F11 b11 m11 (ok_Names F11 T DMix1)
  have DLeaf3 : Df l.prog w K mg base "_law_leaf" ["_law_cell_here", "_law_k"] 2 spLeaf2 := Df.mk' F12 b12 m12 (ok_Leaf F12 T DMix1)
  have DPart3 : Df l.prog w K mg base "_law_part" ["_law_cell_here", "_law_deep", "_law_most"] 3 spPart := Df.mk' F13 b13 m13 (ok_Part F13 T DMix1 DLeaf3)
  have DLaid5 : Df l.prog w K mg base "_law_laid" ["_law_holder", "_law_part_here", "_law_names_here", "_law_number"] 1 (spLaid K) := Df.mk' F14 b14 m14 (ok_Laid F14 T)
  have DDoc3 : Df l.prog w K mg base "_law_doc" ["_law_script", "_law_start", "_law_names_here"] 4 (spDoc2 K) := Df.mk' F15 b15 m15 (ok_Doc F15 T DCell0 DMix1 DPart3 DLaid5)
  have DPaths7 : Df l.prog w K mg base "_law_paths" ["_law_doc_here", "_law_ahead"] 50 (spPaths 50) := Df.mk' F18 b18 m18 (all_Paths F18 T b18 m18 50)
  have DAt8 : Df l.prog w K mg base "_law_at" ["_law_doc_here", "_law_path"] 1 spFound := Df.mk' F19 b19 m19 (ok_At F19 T)
  have DValue9 : Df l.prog w K mg base "_law_value" ["_law_cell_here", "_law_names_here"] 3 spValue := Df.mk' F21 b21 m21 (ok_Value F21 T DMix1 DLeaf3)
  have DMore10 : Df l.prog w K mg base "_law_more" ["_law_doc_here", "_law_path", "_law_names_here", "_law_cell_here"] 2 spMore := Df.mk' F24 b24 m24 (ok_More F24 T DMix1 DAt8)
  have DCopy11 : Df l.prog w K mg base "_law_copy" ["_law_doc_here"] 50 (spCopy 50) := Df.mk' F16 b16 m16 (all_Copy F16 T b16 m16 50)
  have DAlike12 : Df l.prog w K mg base "_law_alike" ["_law_one", "_law_other"] 50 (spAlikeE 50) := Df.mk' F17 b17 m17 (all_Alike F17 T b17 m17 50)
  have DStands13 : Df l.prog w K mg base "_law_stands" ["_law_doc_here", "_law_path"] 1 spStands := Df.mk' F20 b20 m20 (ok_Stands F20 T)
  have DPut13 : Df l.prog w K mg base "_law_put" ["_law_doc_here", "_law_path", "_law_value_here"] 52 spLPut := Df.mk' F22 b22 m22 (ok_Put F22 T DCopy11 DAt8 DStands13)
  have DSpoil15 : Df l.prog w K mg base "_law_spoil" ["_law_doc_here"] 50 (spSpoil 50) := Df.mk' F25 b25 m25 (all_Spoil F25 T b25 m25 50)
  have DStepsOf16 : Df l.prog w K mg base "steps_of" ["doc"] 1 spSteps := Df.mk' F1 b1 m1 (ok_StepsOf F1 T)
  have DOuterCopy17 : Df l.prog w K mg base "outer_copy" ["doc"] 1 spOuter := Df.mk' F2 b2 m2 (ok_OuterCopy F2 T)
  have DCopyOf16 : Df l.prog w K mg base "copy_of" ["doc"] 2 spCopyOf := Df.mk' F3 b3 m3 (ok_CopyOf F3 T DStepsOf16 DOuterCopy17)
  have DHolds19 : Df l.prog w K mg base "holds" ["doc", "step"] 1 spHolds := Df.mk' F4 b4 m4 (ok_Holds F4 T)
  have DFoundAt19 : Df1 l.prog w K mg base "found_at" ["doc", "path"] 2 (spFound1 cNoPart) := Df1.mk' F5 b5 m5 (ok_FoundAt F5 T DHolds19 mXNoPart qXNoPart)
  have DHolderOf19 : Df1 l.prog w K mg base "holder_of" ["doc", "path"] 3 (spHolder1 cNoPart) := Df1.mk' F6 b6 m6 (ok_HolderOf F6 T DFoundAt19 mXNoPart qXNoPart)
  have DHasRoom22 : Df l.prog w K mg base "has_room" ["holder", "step"] 1 spRoom := Df.mk' F7 b7 m7 (ok_HasRoom F7 T)
  have DPutAt16 : Df1 l.prog w K mg base "put_at" ["doc", "path", "value"] 5 (spPut1 cNoPart) := Df1.mk' F8 b8 m8 (ok_PutAt F8 T DCopyOf16 DHolderOf19 DHasRoom22 mXNoPart qXNoPart)
  have DNoPart24 : DfN l.prog w K mg base "_law_no_part" ["_law_e"] 1 (spNoPart cNoPart) := DfN.mk' F23 b23 m23 (ok_NoPart F23 T kitX mXNoPart mXNoRow mXNoFit mXNoPatch mXClash mXNoText mXNoDeed oNoRow oNoFit oNoPatch oClash oNoText oNoDeed oNoPart oVE)
  have DAsked16 : Df l.prog w K mg base "_law_asked" ["_law_doc_here", "_law_path", "_law_value_here"] 6 spAskedP := Df.mk' F26 b26 m26 (ok_Asked F26 T DPutAt16 DNoPart24 mXBoughError qXNoPart qXBoughError sX)
  have DRight11 : Df l.prog w K mg base "_law_right" ["_law_doc_here", "_law_path", "_law_value_here"] 56 spRightP := Df.mk' F27 b27 m27 (ok_Right F27 T DCopy11 DAlike12 DPut13 DSpoil15 DAsked16)
  exact ok_Law F28 T DCell0 DMix1 DNames2 DDoc3 DPaths7 DAt8 DValue9 DMore10 DRight11
theorem walk {l : PySem.W.OpenLaw} {q : Program} {loose : List Str} {XP : (Str → Option Value) → Heap → Prop} {YP : World → Heap → Prop} {d : DefRec} {K : Params → PySem.W.Frag} (hn : l.most = some 63) (hdf : d.params.defaults = [])
    (hY : ∀ (w : World) (h : Heap), YP w h → (K w.params).In h)
    (F : ∀ (w : World) (mg : Str → Option Value) (fa : Addr) (h : Heap), (K w.params).In h → h.Ns mainGlobals mg → mg d.name = some (.ref fa) →
      ∃ fd : FuncData, (∀ (s : Shared) (u : Value), BindsTo s fd ⟨[u], []⟩ [("_law_script", u)]) ∧ ∀ base : Heap, (K w.params).In base → base.Ns mainGlobals mg → FnOk l.prog w (K w.params) mg base CX0 60 fa fd ["_law_script"] (spLaw (K w.params))) :
    PySem.W.WalkO q loose XP YP l.row.toRowW d [] (fun f vs => PySem.call f vs) :=
  L2.walk_of (n := 63) (k := 60) (x := "_law_script") (CX := fun _ => CX0) (sp := fun w => spLaw (K w.params)) hn (by decide) hdf ⟨rfl, by decide, by decide⟩ hY F (fun _ _ a ns hl _ hS => ⟨a, ns, rfl, hS, hl, fun _ => rfl⟩) fun _ _ _ _ _ z => z
theorem walkZ {l : PySem.W.OpenLaw} {q : Program} {loose : List Str} {XP : (Str → Option Value) → Heap → Prop} {d : DefRec} {K : Params → PySem.W.Frag} {as : List Addr} {n t : Nat} (e : ∀ P : Params, as = List.map (fun x => x.fst) (K P)) (hn : l.most = some 63) (hdf : d.params.defaults = [])
    (F : ∀ (w : World) (mg : Str → Option Value) (fa : Addr) (h : Heap), (K w.params).In h → h.Ns mainGlobals mg → mg d.name = some (.ref fa) →
      ∃ fd : FuncData, (∀ (s : Shared) (u : Value), BindsTo s fd ⟨[u], []⟩ [("_law_script", u)]) ∧ ∀ base : Heap, (K w.params).In base → base.Ns mainGlobals mg → FnOk l.prog w (K w.params) mg base CX0 60 fa fd ["_law_script"] (spLaw (K w.params))) :
    PySem.W.WalkX q loose XP (PySem.W.X.obsZ as) (PySem.W.X.valZ K n t) l.row.toRowW d [] (fun f vs => PySem.call f vs) :=
  fun w s₀ s₁ mg mb G y a o pm cd doc dV kV h1 h2 h3 h4 h5 h6 args vals as' L p1 p2 p3 p4 p5 =>
    walk (YP := fun w h => (K w.params).In h) hn hdf (fun _ _ z => z) F w s₀ s₁ mg mb G ((show (K w.params).In s₀.heap from (PySem.W.X.z_facts e y).2.1).keeps L.keeps) a o pm cd doc dV kV h1 h2 h3 h4 h5 h6 args vals as' p1 p2 p3 p4 p5
end K21
def PySem.W.Fast.tw1519928585256696151 : PySem.Program := PySem.Challenge.pw_patchbough_k21_put
theorem PySem.W.Fast.te1519928585256696151 : PySem.Challenge.pw_patchbough_k21_put = PySem.W.Fast.tw1519928585256696151 := rfl
open PySem PySem.W PyProof.Rows
set_option maxRecDepth 100000 in
set_option maxHeartbeats 0 in
theorem PySem.Challenge.cw_patchbough_k21_put_holds : PySem.Challenge.rw_patchbough_k21_put.Holds := by
  w_on; o_law; z_head; (case hw => w_witness2)
  k_fill
  refine K21.walkZ (l := PySem.Challenge.rw_patchbough_k21_put) (fun _ => rfl) rfl rfl ?F
  case F =>
    intro w mg fa h KX G hmg
    refine' K21.all_mk KX G hmg ?a1 ?l1 ?c1 ?k1 ?a2 ?l2 ?c2 ?k2 ?a3 ?l3 ?c3 ?k3 ?a4 ?l4 ?c4 ?k4 ?a5 ?l5 ?c5 ?k5 ?a6 ?l6 ?c6 ?k6 ?a7 ?l7 ?c7 ?k7 ?a8 ?l8 ?c8 ?k8 ?a9 ?l9 ?c9 ?k9 ?a10 ?l10 ?c10 ?k10 ?a11 ?l11 ?c11 ?k11 ?a12 ?l12 ?c12 ?k12 ?a13 ?l13 ?c13 ?k13 ?a14 ?l14 ?c14 ?k14 ?a15 ?l15 ?c15 ?k15 ?a16 ?l16 ?c16 ?k16 ?a17 ?l17 ?c17 ?k17 ?a18 ?l18 ?c18 ?k18 ?a19 ?l19 ?c19 ?k19 ?a20 ?l20 ?c20 ?k20 ?a21 ?l21 ?c21 ?k21 ?a22 ?l22 ?c22 ?k22 ?a23 ?l23 ?c23 ?k23 ?a24 ?l24 ?c24 ?k24 ?a25 ?l25 ?c25 ?k25 ?a26 ?l26 ?c26 ?k26 ?a27 ?l27 ?c27 ?k27 ?a28 ?l28 ?c28 ?k28 ?z1 ?z2 ?z3 ?z4 ?z5 ?z6 ?z7 ?z8 ?z9 ?z10 ?z11 ?z12 ?z13 ?z14 ?z15 ?z16 ?z17 ?xaBoughError ?xaNoPart ?xaNoRow ?xaNoFit ?xaNoPatch ?xaClash ?xaNoText ?xaNoDeed ?qXNoPart ?qXBoughError ?sX ?sXNoPart ?oNoPart ?oNoRow ?oNoFit ?oNoPatch ?oClash ?oNoText ?oNoDeed ?oVE ?kxa ?kxn ?kx1 ?kx2 ?kx3 ?kx4 ?kx5
    (case a1 => k_is)
    (case l1 => k_is)
    (case c1 => k_is)
    (case k1 => k_is)
    (case a2 => k_is)
    (case l2 => k_is)
    (case c2 => k_is)
    (case k2 => k_is)
    (case a3 => k_is)
    (case l3 => k_is)
    (case c3 => k_is)
    (case k3 => k_is)
    (case a4 => k_is)
    (case l4 => k_is)
    (case c4 => k_is)
    (case k4 => k_is)
    (case a5 => k_is)
    (case l5 => k_is)
    (case c5 => k_is)
    (case k5 => k_is)
    (case a6 => k_is)
    (case l6 => k_is)
    (case c6 => k_is)
    (case k6 => k_is)
    (case a7 => k_is)
    (case l7 => k_is)
    (case c7 => k_is)
    (case k7 => k_is)
    (case a8 => k_is)
    (case l8 => k_is)
    (case c8 => k_is)
    (case k8 => k_is)
    (case a9 => k_is)
    (case l9 => k_is)
    (case c9 => k_is)
    (case k9 => k_is)
    (case a10 => k_is)
    (case l10 => k_is)
    (case c10 => k_is)
    (case k10 => k_is)
    (case a11 => k_is)
    (case l11 => k_is)
    (case c11 => k_is)
    (case k11 => k_is)
    (case a12 => k_is)
    (case l12 => k_is)
    (case c12 => k_is)
    (case k12 => k_is)
    (case a13 => k_is)
    (case l13 => k_is)
    (case c13 => k_is)
    (case k13 => k_is)
    (case a14 => k_is)
    (case l14 => k_is)
    (case c14 => k_is)
    (case k14 => k_is)
    (case a15 => k_is)
    (case l15 => k_is)
    (case c15 => k_is)
    (case k15 => k_is)
    (case a16 => k_is)
    (case l16 => k_is)
    (case c16 => k_is)
    (case k16 => k_is)
    (case a17 => k_is)
    (case l17 => k_is)
    (case c17 => k_is)
    (case k17 => k_is)
    (case a18 => k_is)
    (case l18 => k_is)
    (case c18 => k_is)
    (case k18 => k_is)
    (case a19 => k_is)
    (case l19 => k_is)
    (case c19 => k_is)
    (case k19 => k_is)
    (case a20 => k_is)
    (case l20 => k_is)
    (case c20 => k_is)
    (case k20 => k_is)
    (case a21 => k_is)
    (case l21 => k_is)
    (case c21 => k_is)
    (case k21 => k_is)
    (case a22 => k_is)
    (case l22 => k_is)
    (case c22 => k_is)
    (case k22 => k_is)
    (case a23 => k_is)
    (case l23 => k_is)
    (case c23 => k_is)
    (case k23 => k_is)
    (case a24 => k_is)
    (case l24 => k_is)
    (case c24 => k_is)
    (case k24 => k_is)
    (case a25 => k_is)
    (case l25 => k_is)
    (case c25 => k_is)
    (case k25 => k_is)
    (case a26 => k_is)
    (case l26 => k_is)
    (case c26 => k_is)
    (case k26 => k_is)
    (case a27 => k_is)
    (case l27 => k_is)
    (case c27 => k_is)
    (case k27 => k_is)
    (case a28 => k_is)
    (case l28 => k_is)
    (case c28 => k_is)
    (case k28 => k_is)
    (case z1 => k_is)
    (case z2 => k_is)
    (case z3 => k_is)
    (case z4 => k_is)
    (case z5 => k_is)
    (case z6 => k_is)
    (case z7 => k_is)
    (case z8 => k_is)
    (case z9 => k_is)
    (case z10 => k_is)
    (case z11 => k_is)
    (case z12 => k_is)
    (case z13 => k_is)
    (case z14 => k_is)
    (case z15 => k_is)
    (case z16 => k_is)
    (case z17 => k_is)
    (case xaBoughError => k_is)
    (case xaNoPart => k_is)
    (case xaNoRow => k_is)
    (case xaNoFit => k_is)
    (case xaNoPatch => k_is)
    (case xaClash => k_is)
    (case xaNoText => k_is)
    (case xaNoDeed => k_is)
    (case qXNoPart => kernel_rfl)
    (case qXBoughError => kernel_rfl)
    (case sX => kernel_rfl)
    (case sXNoPart => kernel_rfl)
    (case oNoPart => kernel_rfl)
    (case oNoRow => kernel_rfl)
    (case oNoFit => kernel_rfl)
    (case oNoPatch => kernel_rfl)
    (case oClash => kernel_rfl)
    (case oNoText => kernel_rfl)
    (case oNoDeed => kernel_rfl)
    (case oVE => kernel_rfl)
    (case kxa => k_is)
    (case kxn => k_is)
    (case kx1 => k_is)
    (case kx2 => k_is)
    (case kx3 => k_is)
    (case kx4 => k_is)
    (case kx5 => k_is)
#print axioms PySem.Challenge.cw_patchbough_k21_put_holds

