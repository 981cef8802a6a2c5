import PyProof.Rows.All
import Wide.All
import OpenK.AllK
import Wide.FinOn
import Lean
import PyProof.EqAt
import PyProof.EqKinds
import PyProof.TupleCall
import PyProof.ReprRoads
import PyProof.ReprBulk
import PyProof.ZipIter
import PyProof.P3Eq
import PySem.Challenge.RW_patchbough_k41_what_asks_let_in
set_option Elab.async false
set_option linter.all false
set_option maxRecDepth 100000
namespace L2
open PySem PySem.Spec PyProof.Rows

abbrev Key := Sum Int Str
def keyIs : Key → Value → Bool
  | .inl k, v => Value.isInt k v
  | .inr x, v => Value.isStrOf x v
def keyH (w : World) : Key → Int
  | .inl k => hashInt k
  | .inr x => hashStr w x
theorem keyIs_shape : ∀ {k : Key} {v : Value}, keyIs k v = true → (∃ i t, k = Sum.inl i ∧ v = Value.int i t) ∨ (∃ x t, k = Sum.inr x ∧ v = Value.str x t)
  | .inl i, v, h => by
    obtain ⟨t, e⟩ := Value.isInt_shape (k := i) (v := v) h
    exact .inl ⟨i, t, rfl, e⟩
  | .inr x, v, h => by
    obtain ⟨t, e⟩ := Value.isStrOf_shape (x := x) (v := v) h
    exact .inr ⟨x, t, rfl, e⟩
theorem keyIs_int (i : Int) (t : Tok) : keyIs (.inl i) (.int i t) = true := by simp [keyIs, Value.isInt]
theorem keyIs_str (x : Str) (t : Tok) : keyIs (.inr x) (.str x t) = true := by simp [keyIs, Value.isStrOf]
theorem key_ll (a b : Int) : decide ((Sum.inl a : Key) = Sum.inl b) = (a == b) := by
  by_cases e : a = b
  · subst e; simp
  · have h : ¬ (Sum.inl a : Key) = Sum.inl b := fun q => e (Sum.inl.inj q)
    rw [decide_eq_false h]
    exact (beq_eq_false_iff_ne.mpr e).symm
theorem key_rr (a b : Str) : decide ((Sum.inr a : Key) = Sum.inr b) = decide (a = b) := by
  by_cases e : a = b
  · subst e; simp
  · have h : ¬ (Sum.inr a : Key) = Sum.inr b := fun q => e (Sum.inr.inj q)
    rw [decide_eq_false h, decide_eq_false e]
theorem key_lr (a : Int) (b : Str) : decide ((Sum.inl a : Key) = Sum.inr b) = false := decide_eq_false (fun q => nomatch q)
theorem key_rl (a : Str) (b : Int) : decide ((Sum.inr a : Key) = Sum.inl b) = false := decide_eq_false (fun q => nomatch q)

def mixKind (prog : Program) (w : World) : PySem.KeyKind prog w Key where
  is := keyIs
  hash := keyH w
  inj := fun v a b ha hb => by
    rcases keyIs_shape ha with ⟨i, t, rfl, rfl⟩ | ⟨x, t, rfl, rfl⟩
    · rcases keyIs_shape hb with ⟨j, u, rfl, e⟩ | ⟨y, u, rfl, e⟩
      · injection e with e1 _; rw [e1]
      · exact nomatch e
    · rcases keyIs_shape hb with ⟨j, u, rfl, e⟩ | ⟨y, u, rfl, e⟩
      · exact nomatch e
      · injection e with e1 _; rw [e1]
  byValue := fun k v h => by
    rcases keyIs_shape h with ⟨i, t, rfl, rfl⟩ | ⟨x, t, rfl, rfl⟩ <;> rfl
  pyHash := fun hv h => by
    rcases keyIs_shape hv with ⟨i, t, rfl, rfl⟩ | ⟨x, t, rfl, rfl⟩
    · exact wpAny_pyHash_int h
    · exact wpAny_pyHash_str h
  eqBool := fun hu hv h => by
    rcases keyIs_shape hu with ⟨i, t, rfl, rfl⟩ | ⟨x, t, rfl, rfl⟩
    · rcases keyIs_shape hv with ⟨j, u, rfl, rfl⟩ | ⟨y, u, rfl, rfl⟩
      · rw [key_ll] at h; exact wpAny_eqBool_int h
      · rw [key_lr] at h; exact SeqAt.EqAt.int_str i t y u _ _ _ _ h
    · rcases keyIs_shape hv with ⟨j, u, rfl, rfl⟩ | ⟨y, u, rfl, rfl⟩
      · rw [key_rl] at h; exact SeqAt.EqAt.str_int x t j u _ _ _ _ h
      · rw [key_rr] at h; exact wpAny_eqBool_str h
  «strs» := fun k x t v h => by
    rcases keyIs_shape h with ⟨i, u, rfl, e⟩ | ⟨y, u, rfl, e⟩
    · exact nomatch e
    · injection e with e1 _
      subst e1
      cases v <;> rfl

theorem mixKind_int (prog : Program) (w : World) (i : Int) (t : Tok) : (mixKind prog w).is (.inl i) (.int i t) = true := keyIs_int i t
theorem mixKind_str (prog : Program) (w : World) (x : Str) (t : Tok) : (mixKind prog w).is (.inr x) (.str x t) = true := keyIs_str x t
end L2

namespace L2
open PySem PySem.Spec PyProof.Rows

inductive V where
  | non | bl (b : Bool) | int (i : Int) | str (x : Str) | byt (b : Array UInt8) | flt (b : UInt64) | ref (a : Addr) | ty (n : String)
  deriving DecidableEq

def RelV : V → Value → Prop
  | .non, u => u = Value.none
  | .bl b, u => u = Value.bool b
  | .int i, u => ∃ t, u = Value.int i t
  | .str x, u => ∃ t, u = Value.str x t
  | .byt b, u => ∃ t, u = Value.bytes b t
  | .flt b, u => ∃ t, u = Value.float b t
  | .ref a, u => u = Value.ref a
  | .ty n, u => u = Value.type n

abbrev Vals : List V → List Value → Prop := Paired RelV
theorem Vals.length {xs : List V} {us : List Value} (r : Vals xs us) : xs.length = us.length := Paired.length r
theorem Vals.inv {x : V} {xs : List V} {us : List Value} (r : Vals (x :: xs) us) : ∃ u ur, us = u :: ur ∧ RelV x u ∧ Vals xs ur := by
  cases r with
  | cons a b => exact ⟨_, _, rfl, a, b⟩
theorem Vals.get {xs : List V} {us : List Value} {i : Nat} {x : V} (r : Vals xs us) (e : xs[i]? = some x) : ∃ u, us[i]? = some u ∧ RelV x u := by
  induction r generalizing i with
  | nil => rw [List.getElem?_nil] at e; exact nomatch e
  | cons a b ih =>
    cases i with
    | zero => exact ⟨_, rfl, Option.some.inj e ▸ a⟩
    | succ j => exact ih (i := j) e
theorem Vals.set {x : V} {u : Value} (r : RelV x u) : ∀ {xs : List V} {us : List Value} (i : Nat), Vals xs us → Vals (xs.set i x) (us.set i u)
  | _, _, _, .nil => .nil
  | _, _, 0, .cons _ t => .cons r t
  | _, _, i + 1, .cons q t => .cons q (Vals.set r i t)
theorem Vals.append {xs ys : List V} {us ws : List Value} (r : Vals xs us) (s : Vals ys ws) : Vals (xs ++ ys) (us ++ ws) := by
  induction r with
  | nil => exact s
  | cons a _ ih => exact .cons a ih
theorem Vals.take : ∀ {xs : List V} {us : List Value} (n : Nat), Vals xs us → Vals (xs.take n) (us.take n)
  | _, _, 0, _ => .nil
  | _, _, _ + 1, .nil => .nil
  | _, _, n + 1, .cons r t => .cons r (Vals.take n t)
theorem Vals.drop : ∀ {xs : List V} {us : List Value} (n : Nat), Vals xs us → Vals (xs.drop n) (us.drop n)
  | _, _, 0, r => r
  | _, _, _ + 1, .nil => .nil
  | _, _, n + 1, .cons _ t => Vals.drop n t
def RelO : Option V → Option Value → Prop
  | some v, some u => RelV v u
  | none, none => True
  | _, _ => False
def KV {κ : Type} : List (κ × V) → List (κ × Value) → Prop := Paired fun (p : κ × V) (q : κ × Value) => p.1 = q.1 ∧ RelV p.2 q.2

def kV : Key → V
  | .inl i => .int i
  | .inr x => .str x

inductive HO where
  | lst (xs : List V)
  | tup (xs : List V)
  | dK (kvs : List (Key × V)) | dT (kvs : List (List Key × V))
  | set (S : Int → Bool) (n : Nat)
  | ins (C dx : Addr) (fs : List (Str × V))
  | own (x : Addr)
  | xd (fs : List (Str × V))
  | met (f x : Addr)
  | rng (lo hi : Int)
  | frz (o : Obj) (u : HO)
  | tbl (ps : Array Value)
  | ext (φ : Heap → Prop)

abbrev Hp := Addr → Option HO
def upd (H : Hp) (a : Addr) (o : HO) : Hp := fun b => if b = a then some o else H b
theorem upd_same {H : Hp} {a : Addr} {o : HO} : upd H a o a = some o := by unfold upd; rw [if_pos rfl]
theorem upd_ne {H : Hp} {a b : Addr} {o : HO} (h : b ≠ a) : upd H a o b = H b := by unfold upd; rw [if_neg h]
theorem upd_upd {H : Hp} {a : Addr} {o u : HO} : upd (upd H a o) a u = upd H a u := by
  funext b; unfold upd; split <;> rfl
theorem ne_of {H : Hp} {a b : Addr} {o u : HO} (h : H a = some o) (h' : H b = some u) (d : o ≠ u) : a ≠ b := by
  intro e; subst e; rw [h] at h'; exact d (Option.some.inj h')
theorem ne_of_none {H : Hp} {a b : Addr} {o : HO} (h : H a = some o) (h' : H b = none) : a ≠ b := by
  intro e; subst e; rw [h] at h'; cases h'

section
variable (P : Program) (w : World)
def ObjOk (H : Hp) (h : Heap) (a : Addr) : HO → Prop
  | .lst xs => xs.length ≤ sizeLine ∧ ∃ (its : List Value) (n : Nat), Vals xs its ∧ h.get? a = some { cls := .type "list", data := .seq its.toArray n }
  | .tup xs => xs.length ≤ sizeLine ∧ ∃ its : List Value, Vals xs its ∧ IsTup h a its.toArray
  | .dK kvs => kvs.length ≤ sizeLine ∧ (a == sysModules) = false ∧ ∃ vs, KV kvs vs ∧ h.DictOf (mixKind P w) a vs
  | .dT kvs => kvs.length ≤ sizeLine ∧ (a == sysModules) = false ∧ ∃ xs : List (List Key × Addr × Value),
      Paired (fun (p : List Key × V) (q : List Key × Addr × Value) => p.1 = q.1 ∧ H q.2.1 = some (.tup (p.1.map kV)) ∧ RelV p.2 q.2.2) kvs xs ∧
      ∃ o es ep, h.get? a = some o ∧ o.ExactDict ∧ o.data = .dict es ep ∧ es.toList = xs.map (entryOfKey (tupleKind (mixKind P w))) ∧ (xs.map (·.1)).Nodup
  | .set S n => h.SetOf (intKind P w) a S n
  | .ins C dx fs => H dx = some (.own a) ∧ fs.length ≤ 1000 ∧ dx ≠ a ∧ h.get? a = some (PySem.W.instObj C dx) ∧
      ∃ mA, h.Ns1 dx mA ∧ (∀ f, RelO (fs.lookup f) (mA f)) ∧ PySem.Within mA (fs.map (·.1))
  | .own _ => ∃ o, h.get? a = some o
  | .xd fs => ∃ mA, h.Ns1 a mA ∧ ∀ f, RelO (fs.lookup f) (mA f)
  | .rng lo hi => ∃ t u v, h.get? a = some { cls := .type "range", data := .fields #[.int lo t, .int hi u, .int 1 v] }
  | .frz o u => h.get? a = some o ∧ ObjOk H h a u
  | .tbl ps => h.get? a = some { cls := .none, data := .fields ps }
  | .met f x => h.get? a = some (PySem.W.methodObj (.ref f) (.ref x))
  | .ext φ => φ h ∧ (∃ o, h.get? a = some o) ∧ ∀ h1 h2 : Heap, φ h1 → (∀ o, h1.get? a = some o → h2.get? a = some o) → φ h2
def HOk (H : Hp) (h : Heap) : Prop := ∀ a o, H a = some o → ObjOk P w H h a o
end

section
variable {P : Program} {w : World} {H H' : Hp} {h h' : Heap} {a : Addr} {o : HO}
theorem ObjOk.lt (x : ObjOk P w H h a o) : a < h.objs.size := by
  cases o with
  | lst xs => obtain ⟨_, _, _, _, e⟩ := x; exact Heap.lt_size e
  | tup xs => obtain ⟨_, _, _, p⟩ := x; exact p.lt
  | dK kvs => obtain ⟨_, _, _, _, o, _, _, e, _⟩ := x; exact Heap.lt_size e
  | dT kvs => obtain ⟨_, _, _, _, o, _, _, e, _⟩ := x; exact Heap.lt_size e
  | set S n => obtain ⟨o, _, _, _, e, _⟩ := x; exact Heap.lt_size e
  | ins C dx fs => obtain ⟨_, _, _, e, _⟩ := x; exact Heap.lt_size e
  | own y => obtain ⟨_, e⟩ := x; exact Heap.lt_size e
  | xd fs => obtain ⟨_, ⟨_, _, _, e, _⟩, _⟩ := x; exact Heap.lt_size e
  | rng lo hi => obtain ⟨_, _, _, e⟩ := x; exact Heap.lt_size e
  | frz ob u => obtain ⟨e, _⟩ := x; exact Heap.lt_size e
  | tbl ps => exact Heap.lt_size (show h.get? a = some _ from x)
  | met f y => exact Heap.lt_size (show h.get? a = some _ from x)
  | ext φ => obtain ⟨_, ⟨_, e⟩, _⟩ := x; exact Heap.lt_size e
theorem Paired.mapP {α β : Type} {F G : α → β → Prop} {l₁ : List α} {l₂ : List β} (r : Paired F l₁ l₂) (f : ∀ a b, F a b → G a b) : Paired G l₁ l₂ := by
  induction r with
  | nil => exact .nil
  | cons a _ ih => exact .cons (f _ _ a) ih
theorem ObjOk.stay (x : ObjOk P w H h a o) (k : ∀ b u, (b = a ∨ H b = some (.own a)) → h.get? b = some u → h'.get? b = some u)
    (ho : ∀ b, H b = some (.own a) → H' b = some (.own a)) (ht : ∀ b xs, H b = some (.tup xs) → H' b = some (.tup xs)) : ObjOk P w H' h' a o := by
  induction o with
  | lst xs => obtain ⟨z, its, n, r, e⟩ := x; exact ⟨z, its, n, r, k _ _ (.inl rfl) e⟩
  | tup xs => obtain ⟨z, its, r, ob, e, c⟩ := x; exact ⟨z, its, r, ob, k _ _ (.inl rfl) e, c⟩
  | dK kvs => obtain ⟨z, y, vs, r, ob, es, ep, e, c⟩ := x; exact ⟨z, y, vs, r, ob, es, ep, k _ _ (.inl rfl) e, c⟩
  | dT kvs =>
    obtain ⟨z, y, xs, r, ob, es, ep, e, c⟩ := x
    exact ⟨z, y, xs, Paired.mapP r fun p q z => ⟨z.1, ht _ _ z.2.1, z.2.2⟩, ob, es, ep, k _ _ (.inl rfl) e, c⟩
  | set S n => obtain ⟨ob, es, ep, t, e, c⟩ := x; exact ⟨ob, es, ep, t, k _ _ (.inl rfl) e, c⟩
  | ins C dx fs =>
    obtain ⟨d, z, ne, e, mA, ⟨od, es, ep, e2, c⟩, r⟩ := x
    exact ⟨ho _ d, z, ne, k _ _ (.inl rfl) e, mA, ⟨od, es, ep, k _ _ (.inr d) e2, c⟩, r⟩
  | own y => obtain ⟨ob, e⟩ := x; exact ⟨ob, k _ _ (.inl rfl) e⟩
  | xd fs => obtain ⟨mA, ⟨od, es, ep, e, c⟩, r⟩ := x; exact ⟨mA, ⟨od, es, ep, k _ _ (.inl rfl) e, c⟩, r⟩
  | rng lo hi => obtain ⟨t, u, v, e⟩ := x; exact ⟨t, u, v, k _ _ (.inl rfl) e⟩
  | frz ob u ih => obtain ⟨e, q⟩ := x; exact ⟨k _ _ (.inl rfl) e, ih q⟩
  | tbl ps =>
    have e : h.get? a = some { cls := .none, data := .fields ps } := x
    show h'.get? a = some { cls := .none, data := .fields ps }
    exact k a _ (.inl rfl) e
  | met f y =>
    have e : h.get? a = some (PySem.W.methodObj (.ref f) (.ref y)) := x
    show h'.get? a = some (PySem.W.methodObj (.ref f) (.ref y))
    exact k a _ (.inl rfl) e
  | ext φ => obtain ⟨p, ⟨o, e⟩, st⟩ := x; exact ⟨st _ _ p fun o q => k _ _ (.inl rfl) q, ⟨o, k _ _ (.inl rfl) e⟩, st⟩
theorem HOk.lt (x : HOk P w H h) (e : H a = some o) : a < h.objs.size := (x a o e).lt
theorem HOk.fresh (x : HOk P w H h) (e : h.objs.size ≤ a) : H a = none := by
  cases q : H a with
  | none => rfl
  | some u => exact absurd (Nat.lt_of_lt_of_le (x.lt q) e) (Nat.lt_irrefl _)
theorem HOk.kept (x : HOk P w H h) (k : ∀ b u, h.get? b = some u → h'.get? b = some u) : HOk P w H h' := fun a o e =>
  (x a o e).stay (fun b u _ q => k b u q) (fun _ q => q) fun _ _ q => q
theorem HOk.laid (x : HOk P w H h) (k : ∀ b u, h.get? b = some u → h'.get? b = some u) (hp : h.objs.size ≤ a) (new : ObjOk P w (upd H a o) h' a o) : HOk P w (upd H a o) h' := fun b u e => by
  have hn := x.fresh hp
  by_cases hb : b = a
  · subst hb; rw [upd_same] at e; cases e; exact new
  · rw [upd_ne hb] at e
    exact (x b u e).stay (fun c v _ q => k c v q) (fun c q => by rw [upd_ne (ne_of_none q hn)]; exact q) fun c xs q => by rw [upd_ne (ne_of_none q hn)]; exact q
end

def Rd (H : Hp) (a : Addr) (u : HO) : Prop := H a = some u ∨ ∃ o, H a = some (.frz o u)
theorem Rd.ok {P : Program} {w : World} {H : Hp} {h : Heap} {a : Addr} {u : HO} (r : Rd H a u) (x : HOk P w H h) : ObjOk P w H h a u := by
  rcases r with r | ⟨o, r⟩
  · exact x a u r
  · obtain ⟨_, q⟩ := x a _ r
    exact q
def Mut : Option HO → Prop
  | some (.lst _) => True
  | some (.dK _) => True
  | some (.dT _) => True
  | some (.set _ _) => True
  | some (.ins _ _ _) => True
  | some (.ext _) => True
  | _ => False
section
variable {P : Program} {w : World} {H : Hp} {h h' : Heap} {x e : Addr} {o' : HO}
theorem HOk.write (ok : HOk P w H h) (mu : Mut (H x)) (he : e = x ∨ H e = some (.own x)) (k : ∀ b u, b ≠ e → h.get? b = some u → h'.get? b = some u) (heo : ∃ u, h'.get? e = some u)
    (new : ObjOk P w (upd H x o') h' x o') : HOk P w (upd H x o') h' := fun b u q => by
  have nown : ∀ c y, H c = some (.own y) → c ≠ x := fun c y r z => by subst z; rw [r] at mu; exact mu
  have ntup : ∀ c xs, H c = some (.tup xs) → c ≠ x := fun c xs r z => by subst z; rw [r] at mu; exact mu
  by_cases hb : b = x
  · subst hb; rw [upd_same] at q; cases q; exact new
  · rw [upd_ne hb] at q
    by_cases hbe : b = e
    · have q' : H b = some (.own x) := by
        rcases he with z | z
        · exact absurd (hbe.trans z) hb
        · rw [hbe]; exact z
      rw [q] at q'; cases q'
      obtain ⟨v, hv⟩ := heo
      exact ⟨v, by rw [hbe]; exact hv⟩
    · refine (ok b u q).stay (fun c v hc r => k c v ?_ r) (fun c r => by rw [upd_ne (nown c b r)]; exact r) fun c xs r => by rw [upd_ne (ntup c xs r)]; exact r
      rcases hc with rfl | hc
      · exact hbe
      · rintro rfl
        rcases he with z | z
        · exact nown c b hc z
        · rw [hc] at z; cases z; exact hb rfl
end

structure Un (fs ex : List Addr) (H H' : Hp) (h h' : Heap) : Prop where
  keep : ∀ b o, h.get? b = some o → H b = none → b ∉ fs → b ∉ ex → h'.get? b = some o
  slot : ∀ b o, h.get? b = some o → H b = none → b ∈ fs → b ∉ ex → ∃ sl, h'.get? b = some { o with slots := sl }
  free : ∀ b o, h.get? b = some o → H b = none → b ∉ ex → H' b = none
  there : ∀ b o, h.get? b = some o → b ∉ ex → ∃ o', h'.get? b = some o'
  tups : ∀ b xs, H b = some (.tup xs) → H' b = some (.tup xs)
  frzs : ∀ b o u, H b = some (.frz o u) → H' b = some (.frz o u)
  tbls : ∀ b ps, H b = some (.tbl ps) → ∃ more, H' b = some (.tbl (ps ++ more))
section
variable {fs fs' ex ex' : List Addr} {H H1 H2 : Hp} {h h1 h2 h' : Heap} {a x e : Addr} {o : HO}
theorem Un.any (u : Un fs ex H H1 h h1) {b : Addr} {ob : Obj} (q : h.get? b = some ob) (n : H b = none) (hx : b ∉ ex) : ∃ sl, h1.get? b = some { ob with slots := sl } := by
  by_cases hb : b ∈ fs
  · exact u.slot b ob q n hb hx
  · exact ⟨ob.slots, u.keep b ob q n hb hx⟩
theorem Un.kept (k : ∀ b u, h.get? b = some u → h'.get? b = some u) : Un fs ex H H h h' :=
  ⟨fun b ob q _ _ _ => k b ob q, fun b ob q _ _ _ => ⟨ob.slots, k b ob q⟩, fun _ _ _ n _ => n, fun b ob q _ => ⟨ob, k b ob q⟩, fun _ _ q => q, fun _ _ _ q => q, fun _ ps q => ⟨#[], by rw [q]; simp⟩⟩
theorem Un.refl : Un fs ex H H h h := Un.kept fun _ _ q => q
theorem Un.laid (k : ∀ b u, h.get? b = some u → h'.get? b = some u) (hp : h.objs.size ≤ a) (hn : H a = none) : Un fs ex H (upd H a o) h h' where
  keep := fun b u q _ _ _ => k b u q
  slot := fun b u q _ _ _ => ⟨u.slots, k b u q⟩
  free := fun b u q n _ => by rw [upd_ne (Nat.ne_of_lt (Nat.lt_of_lt_of_le (Heap.lt_size q) hp))]; exact n
  there := fun b u q _ => ⟨u, k b u q⟩
  tups := fun b xs q => by rw [upd_ne (ne_of_none q hn)]; exact q
  frzs := fun b u xs q => by rw [upd_ne (ne_of_none q hn)]; exact q
  tbls := fun b ps q => ⟨#[], by rw [upd_ne (ne_of_none q hn), q]; simp⟩
theorem Un.write (mu : Mut (H x)) (he : e = x ∨ H e = some (.own x)) (k : ∀ b u, b ≠ e → h.get? b = some u → h'.get? b = some u) (heo : ∃ u, h'.get? e = some u) : Un fs ex H (upd H x o) h h' := by
  have hx : ∀ b, H b = none → b ≠ x := fun b n z => by subst z; rw [n] at mu; exact mu
  have hb : ∀ b, H b = none → b ≠ e := fun b n z => by
    subst z
    rcases he with r | r
    · exact hx b n r
    · rw [n] at r; cases r
  have hm : ∀ b u, H b = some u → ¬ Mut (some u) → b ≠ x := fun b u q nm z => by subst z; rw [q] at mu; exact nm mu
  refine ⟨fun b u q n _ _ => k b u (hb b n) q, fun b u q n _ _ => ⟨u.slots, k b u (hb b n) q⟩, fun b u q n _ => by rw [upd_ne (hx b n)]; exact n, fun b u q _ => ?_,
    fun b xs q => by rw [upd_ne (hm b _ q fun z => z)]; exact q, fun b u xs q => by rw [upd_ne (hm b _ q fun z => z)]; exact q, fun b ps q => ⟨#[], by rw [upd_ne (hm b _ q fun z => z), q]; simp⟩⟩
  by_cases hbe : b = e
  · subst hbe; exact heo
  · exact ⟨u, k b u hbe q⟩
end

def trk (h : Heap) (H : Hp) : List Addr := (List.range h.objs.size).filter fun a => (H a).isSome
def hidT (h : Heap) (H : Hp) : Heap := PySem.W.hideAll h (trk h H)
theorem hidT_size (h : Heap) (H : Hp) : (hidT h H).objs.size = h.objs.size := PySem.W.hideAll_size _ _
theorem hidT_get {h : Heap} {H : Hp} {b : Addr} {o : Obj} (e : h.get? b = some o) (n : H b = none) : (hidT h H).get? b = some o :=
  PySem.W.hideAll_get _ e fun hm => by
    have q : (H b).isSome = true := (List.mem_filter.mp hm).2
    rw [n] at q; simp at q
theorem of_hidT {h : Heap} {H : Hp} {b : Addr} {o : Obj} (e : (hidT h H).get? b = some o) : h.get? b = some o ∧ H b = none := by
  have e' : h.get? b = some o := PySem.W.of_hideAll (trk h H) e
  refine ⟨e', ?_⟩
  cases q : H b with
  | none => rfl
  | some x =>
    have hm : b ∈ trk h H := List.mem_filter.mpr ⟨List.mem_range.mpr (Heap.lt_size e'), by simp [q]⟩
    have z : (hidT h H).get? b = none := PySem.W.hideAll_none (trk h H) hm
    rw [z] at e; cases e

def allNews (g h : Heap) (L : Addr) : List (Addr × Obj) := (List.range h.objs.size).filterMap fun a => if a = L ∨ (g.get? a).isSome = true then none else (h.get? a).map fun o => (a, o)
def rest (g h : Heap) (L d : Addr) : List (Addr × Obj) := (allNews g h L).filter fun p => decide (p.1 ≠ d)
end L2

namespace L2
open PySem PySem.Spec PyProof.Rows

structure Mod (K : PySem.W.Frag) (mg : Str → Option Value) (base : Heap) : Prop where
  kin : K.In base
  glob : base.Ns mainGlobals mg
  blt : ∃ mb, base.Ns builtinsNs mb ∧ ∀ x : Str, x ≠ "__name__" → mb x = bootBuiltins x
  nolimit : base.NoLimit

structure Cx where
  prog : Program
  w : World
  K : PySem.W.Frag
  mg : Str → Option Value
  base : Heap
  A : Around
  N : List Str
  s₀ : Shared
  H₀ : Hp
  env : Env
  outer : List Env
  stack : List Env
  ex : List Addr
  fn : Str → Bool
  calm : Bool
  pn : List (Addr × Obj)
  xe : Value → Shared → Prop
def frs (l : List Env) : List Addr := l.filterMap (·.frame)
abbrev Cx.fs (X : Cx) : List Addr := frs X.outer

def Vis (sc : Scope) (x : Str) : Prop := sc.names.lookup x = some .local ∨ sc.names.lookup x = some .cell ∨ sc.names.lookup x = some .free
def Loc (sc : Scope) (x : Str) : Prop := sc.names.lookup x = some .local ∨ sc.names.lookup x = some .cell
def Look (env : Env) (h : Heap) (m : Str → Option Value) (x : Str) (u : Value) : Prop :=
  (env.kindOf x = some .local ∧ m x = some u) ∨ ((env.kindOf x = some .cell ∨ env.kindOf x = some .free) ∧ ∃ c, env.cells.lookup x = some c ∧ h.IsCell c (some u))

structure Cx.Ok (X : Cx) : Prop where
  mod : Mod X.K X.mg X.base
  kind : X.env.scope.kind = .function
  glob : X.env.globals = mainGlobals
  blt : X.env.builtins = builtinsNs
  above : X.s₀.heap.objs.size ≤ X.env.locals
  inj : ∀ x y c, X.env.cells.lookup x = some c → X.env.cells.lookup y = some c → x = y
  has : ∀ x, (X.env.kindOf x = some .cell ∨ X.env.kindOf x = some .free) → ∃ c, X.env.cells.lookup x = some c
  cab : ∀ x c, X.fn x = true → X.env.cells.lookup x = some c → X.s₀.heap.objs.size ≤ c
  hd : X.calm = true → X.A.handled = none
  frames : X.A.frames = some X.stack
  stk : X.stack = X.outer ∨ (X.stack = X.env :: X.outer ∧ X.env.frame = some X.env.locals)
  exf : ∀ b ∈ X.ex, b ≠ X.env.locals ∧ ∀ x c, X.env.cells.lookup x = some c → c ≠ b
  bs : ∀ b o, X.base.get? b = some o → X.s₀.heap.get? b = some o ∧ X.H₀ b = none
  bsz : X.base.objs.size ≤ X.s₀.heap.objs.size
  noex : ∀ b o, X.base.get? b = some o → b ∉ X.ex
  exfs : ∀ b ∈ X.ex, b ∉ X.fs
  funs : X.s₀.heap.FunFrames X.base X.outer
  frf : ∀ b ∈ X.fs, X.H₀ b = none

structure Inv (X : Cx) (pins : List (Addr × Obj)) (σ : List (Option V)) (H : Hp) (s : Shared) : Prop where
  ok : X.Ok
  os : s.os = X.s₀.os
  bare : AllBare s.gens
  base : Un X.fs X.ex X.H₀ H X.s₀.heap s.heap
  loc : ∃ m, s.heap.Ns X.env.locals m ∧ ∀ (i : Nat) (x : Str) (v : V), X.N[i]? = some x → σ[i]? = some (some v) → Vis X.env.scope x → ∃ u, RelV v u ∧ Look X.env s.heap m x u
  cell : ∀ x c, X.env.cells.lookup x = some c → ∃ v, s.heap.IsCell c v
  free : H X.env.locals = none
  freeC : ∀ x c, X.env.cells.lookup x = some c → H c = none
  pin : ∀ p ∈ X.pn ++ pins, s.heap.get? p.1 = some p.2 ∧ H p.1 = none ∧ p.1 ≠ X.env.locals ∧ p.1 ∉ X.fs ∧ ∀ v, p.2.data ≠ .cell v
  hok : HOk X.prog X.w H s.heap
  len : σ.length = X.N.length

section
variable {X : Cx} {pins : List (Addr × Obj)} {σ : List (Option V)} {H H' : Hp} {s : Shared} {h' : Heap}

theorem Cx.Ok.nofr (ok : X.Ok) {b : Addr} {o : Obj} (e : X.base.get? b = some o) : b ∉ X.fs := fun hb => by
  have := (ok.funs.mem hb).1
  rw [e] at this; cases this
theorem Inv.bs (I : Inv X pins σ H s) : ∀ b o, X.base.get? b = some o → s.heap.get? b = some o ∧ H b = none := fun b o e =>
  ⟨I.base.keep b o (I.ok.bs b o e).1 (I.ok.bs b o e).2 (I.ok.nofr e) (I.ok.noex b o e), I.base.free b o (I.ok.bs b o e).1 (I.ok.bs b o e).2 (I.ok.noex b o e)⟩
theorem Inv.bk (I : Inv X pins σ H s) : ∀ b o, X.base.get? b = some o → s.heap.get? b = some o := fun b o e => (I.bs b o e).1
theorem Inv.mod (I : Inv X pins σ H s) : Mod X.K X.mg X.base := I.ok.mod
theorem Inv.kIn (I : Inv X pins σ H s) : X.K.In s.heap := I.ok.mod.kin.keeps I.bk
theorem Inv.lt (I : Inv X pins σ H s) : X.env.locals < s.heap.objs.size := let ⟨_, hn, _⟩ := I.loc; hn.lt
theorem Inv.sz (I : Inv X pins σ H s) : X.s₀.heap.objs.size ≤ s.heap.objs.size := Nat.le_trans I.ok.above (Nat.le_of_lt I.lt)
theorem Inv.nofs (I : Inv X pins σ H s) {a : Addr} (h : s.heap.objs.size ≤ a) : a ∉ X.fs := fun hb => by
  obtain ⟨_, o, ho, _⟩ := I.ok.funs.mem hb
  exact absurd (Nat.lt_of_lt_of_le (Heap.lt_size ho) (Nat.le_trans I.sz h)) (Nat.lt_irrefl _)
theorem Inv.cne (I : Inv X pins σ H s) : ∀ x c, X.env.cells.lookup x = some c → c ≠ X.env.locals := fun x c e z => by
  obtain ⟨v, o, ho, hd⟩ := I.cell x c e
  obtain ⟨m, ⟨o', es, ep, ho', hd', _⟩, _⟩ := I.loc
  rw [z, ho'] at ho; cases ho; rw [hd'] at hd; cases hd
theorem Inv.funs (I : Inv X pins σ H s) : s.heap.FunFrames X.base X.outer := by
  have all : ∀ (l : List Env), (∀ b ∈ frs l, b ∈ X.fs) → X.s₀.heap.FunFrames X.base l → s.heap.FunFrames X.base l := by
    intro l
    induction l with
    | nil => intro _ _; trivial
    | cons env r ih =>
      intro hs hl
      obtain ⟨hk, ⟨L, o, hf, hn, ho, hd⟩, hr⟩ := hl
      have hL : L ∈ X.fs := hs L (by unfold frs; rw [List.filterMap_cons, hf]; exact List.mem_cons_self)
      obtain ⟨sl, e⟩ := I.base.slot L o ho (I.ok.frf L hL) hL fun z => I.ok.exfs L z hL
      exact ⟨hk, ⟨L, _, hf, hn, e, hd⟩, ih (fun b hb => hs b (by unfold frs; rw [List.filterMap_cons, hf]; exact List.mem_cons_of_mem _ hb)) hr⟩
  exact all X.outer (fun _ hb => hb) I.ok.funs

theorem Inv.stack (I : Inv X pins σ H s) : s.heap.FunFrames X.base X.stack := by
  rcases I.ok.stk with e | ⟨e, hf⟩
  · rw [e]; exact I.funs
  · rw [e]
    obtain ⟨m, hn, _⟩ := I.loc
    refine .cons (by rw [I.ok.kind]; decide) hf hn ?_ I.funs
    exact Heap.get?_none_of_le (Nat.le_trans I.ok.bsz I.ok.above)
theorem Inv.stkSub (I : Inv X pins σ H s) : ∀ b ∈ frs X.stack, b ∈ X.env.locals :: X.fs := fun b hb => by
  rcases I.ok.stk with e | ⟨e, hf⟩
  · rw [e] at hb; exact List.mem_cons_of_mem _ hb
  · rw [e] at hb
    unfold frs at hb
    rw [List.filterMap_cons, hf] at hb
    exact hb
theorem Inv.stkFree (I : Inv X pins σ H s) : ∀ b ∈ frs X.stack, H b = none := fun b hb => by
  rcases List.mem_cons.mp (I.stkSub b hb) with e | hb
  · rw [e]; exact I.free
  · obtain ⟨_, o, ho, _⟩ := I.ok.funs.mem hb
    exact I.base.free b o ho (I.ok.frf b hb) fun z => I.ok.exfs b z hb

theorem Inv.step {g' : Array GenState} {t' : Nat} {d' : Drawn} {ch : List Addr} (I : Inv X pins σ H s)
    (hch : ∀ b ∈ ch, (b ∈ X.ex ∨ X.s₀.heap.objs.size ≤ b) ∧ b ≠ X.env.locals ∧ (∀ x c, X.env.cells.lookup x = some c → c ≠ b) ∧ ∀ p ∈ X.pn ++ pins, p.1 ≠ b)
    (keep : ∀ b o, b ≠ X.env.locals → b ∉ X.fs → b ∉ ch → s.heap.get? b = some o → H b = none → h'.get? b = some o)
    (slot : ∀ b o, b ≠ X.env.locals → b ∈ X.fs → b ∉ ch → s.heap.get? b = some o → H b = none → ∃ sl, h'.get? b = some { o with slots := sl }) (free : ∀ b o, b ∉ ch → s.heap.get? b = some o → H b = none → H' b = none)
    (there : ∀ b o, b ∉ ch → s.heap.get? b = some o → ∃ o', h'.get? b = some o')
    (tups : ∀ b xs, H b = some (.tup xs) → H' b = some (.tup xs)) (frzs : ∀ b o u, H b = some (.frz o u) → H' b = some (.frz o u)) (tbls : ∀ b ps, H b = some (.tbl ps) → ∃ more, H' b = some (.tbl (ps ++ more)))
    (ns : ∀ m, s.heap.Ns X.env.locals m → h'.Ns X.env.locals m) (hok : HOk X.prog X.w H' h') (hg : AllBare g') :
    Inv X pins σ H' { s with heap := h', gens := g', drawn := d', toks := t' } := by
  have neL : ∀ b o, X.s₀.heap.get? b = some o → b ≠ X.env.locals := fun b o e => Nat.ne_of_lt (Nat.lt_of_lt_of_le (Heap.lt_size e) I.ok.above)
  have neC : ∀ b o, X.s₀.heap.get? b = some o → b ∉ X.ex → b ∉ ch := fun b o e hx hb => by
    rcases (hch b hb).1 with z | z
    · exact hx z
    · exact absurd (Nat.lt_of_lt_of_le (Heap.lt_size e) z) (Nat.lt_irrefl _)
  have cellK : ∀ x c, X.env.cells.lookup x = some c → ∀ v, s.heap.IsCell c v → h'.IsCell c v := fun x c e v ⟨o, ho, hd⟩ => by
    have nch : c ∉ ch := fun z => (hch c z).2.2.1 x c e rfl
    by_cases hc : c ∈ X.fs
    · obtain ⟨sl, q⟩ := slot c o (I.cne x c e) hc nch ho (I.freeC x c e)
      exact ⟨_, q, hd⟩
    · exact ⟨o, keep c o (I.cne x c e) hc nch ho (I.freeC x c e), hd⟩
  refine ⟨I.ok, I.os, hg, ⟨fun b o e n hb hx => ?_, fun b o e n hb hx => ?_, fun b o e n hx => ?_, fun b o e hx => ?_, fun b xs e => tups b xs (I.base.tups b xs e), fun b o xs e => frzs b o xs (I.base.frzs b o xs e), fun b ps e => ?_⟩, ?_, fun x c e => ?_, ?_, fun x c e => ?_, fun p hp => ?_, hok, I.len⟩
  · exact keep b o (neL b o e) hb (neC b o e hx) (I.base.keep b o e n hb hx) (I.base.free b o e n hx)
  · obtain ⟨sl, e1⟩ := I.base.slot b o e n hb hx
    obtain ⟨sl', e2⟩ := slot b _ (neL b o e) hb (neC b o e hx) e1 (I.base.free b o e n hx)
    exact ⟨sl', e2⟩
  · obtain ⟨o', e1⟩ := I.base.there b o e hx
    exact free b o' (neC b o e hx) e1 (I.base.free b o e n hx)
  · obtain ⟨o', e1⟩ := I.base.there b o e hx
    exact there b o' (neC b o e hx) e1
  · obtain ⟨m1, e1⟩ := I.base.tbls b ps e
    obtain ⟨m2, e2⟩ := tbls b _ e1
    exact ⟨m1 ++ m2, by rw [e2, Array.append_assoc]⟩
  · obtain ⟨m, hn, hl⟩ := I.loc
    refine ⟨m, ns m hn, fun i x v e1 e2 e3 => ?_⟩
    obtain ⟨u, r, l⟩ := hl i x v e1 e2 e3
    refine ⟨u, r, ?_⟩
    rcases l with l | ⟨k, c, e, z⟩
    · exact .inl l
    · exact .inr ⟨k, c, e, cellK x c e _ z⟩
  · obtain ⟨v, z⟩ := I.cell x c e
    exact ⟨v, cellK x c e v z⟩
  · obtain ⟨m, ⟨o, _, _, ho, _⟩, _⟩ := I.loc
    exact free _ o (fun z => (hch _ z).2.1 rfl) ho I.free
  · obtain ⟨v, o, ho, hd⟩ := I.cell x c e
    exact free c o (fun z => (hch c z).2.2.1 x c e rfl) ho (I.freeC x c e)
  · obtain ⟨e, n, ne, nf, d⟩ := I.pin p hp
    have nch : p.1 ∉ ch := fun z => (hch p.1 z).2.2.2 p hp rfl
    exact ⟨keep p.1 p.2 ne nf nch e n, free p.1 p.2 nch e n, ne, nf, d⟩
theorem Inv.un {t' : Nat} (I : Inv X pins σ H s) (u : Un X.fs [] H H' s.heap h') (hok : HOk X.prog X.w H' h') : Inv X pins σ H' { s with heap := h', toks := t' } := by
  obtain ⟨m, ⟨o, es, ep, ho, r⟩, _⟩ := id I.loc
  obtain ⟨sl, hL⟩ := u.any ho I.free (by simp)
  exact I.step (g' := s.gens) (d' := s.drawn) (ch := []) (fun _ z => nomatch z) (fun b o _ hb _ e n => u.keep b o e n hb (by simp)) (fun b o _ hb _ e n => u.slot b o e n hb (by simp)) (fun b o _ e n => u.free b o e n (by simp)) (fun b o _ e => u.there b o e (by simp)) u.tups u.frzs u.tbls (fun m' hm => by
    obtain ⟨o', es', ep', ho', r'⟩ := hm
    rw [ho] at ho'; cases ho'
    exact ⟨_, es', ep', hL, r'⟩) hok I.bare
theorem Inv.call {g' : Array GenState} {t' : Nat} {d' : Drawn} {ch : List Addr} (I : Inv X pins σ H s) (u : Un (frs X.stack) ch H H' s.heap h') (hok : HOk X.prog X.w H' h') (hg : AllBare g')
    (hch : ∀ b ∈ ch, (b ∈ X.ex ∨ X.s₀.heap.objs.size ≤ b) ∧ b ≠ X.env.locals ∧ (∀ x c, X.env.cells.lookup x = some c → c ≠ b) ∧ ∀ p ∈ X.pn ++ pins, p.1 ≠ b) :
    Inv X pins σ H' { s with heap := h', gens := g', drawn := d', toks := t' } := by
  obtain ⟨m, ⟨o, es, ep, ho, r⟩, _⟩ := id I.loc
  obtain ⟨sl, hL⟩ := u.any ho I.free fun z => (hch _ z).2.1 rfl
  exact I.step (ch := ch) hch (fun b o hL hb hc e n => u.keep b o e n (fun z => (List.mem_cons.mp (I.stkSub b z)).elim hL hb) hc) (fun b o _ _ hc e n => u.any e n hc) (fun b o hc e n => u.free b o e n hc) (fun b o hc e => u.there b o e hc) u.tups u.frzs u.tbls (fun m' hm => by
    obtain ⟨o', es', ep', ho', r'⟩ := hm
    rw [ho] at ho'; cases ho'
    exact ⟨_, es', ep', hL, r'⟩) hok hg
theorem Inv.turned {t' : Nat} {it : Addr} (I : Inv X pins σ H s) (k : ∀ b o, b ≠ it → s.heap.get? b = some o → h'.get? b = some o) (hn : H it = none) (hL : it ≠ X.env.locals)
    (h1 : it ∈ X.ex ∨ X.s₀.heap.objs.size ≤ it) (h2 : ∀ x c, X.env.cells.lookup x = some c → c ≠ it) (h3 : ∀ p ∈ X.pn ++ pins, p.1 ≠ it) : Inv X pins σ H { s with heap := h', toks := t' } := by
  have nit : ∀ b u, H b = some u → b ≠ it := fun b u e z => by rw [z, hn] at e; cases e
  refine I.step (g' := s.gens) (d' := s.drawn) (ch := [it]) (fun b hb => ?_) (fun b o _ _ hc e _ => k b o (fun z => hc (by simp [z])) e) (fun b o _ _ hc e _ => ⟨o.slots, k b o (fun z => hc (by simp [z])) e⟩) (fun _ _ _ _ n => n)
    (fun b o hc e => ⟨o, k b o (fun z => hc (by simp [z])) e⟩) (fun _ _ e => e) (fun _ _ _ e => e) (fun b ps e => ⟨#[], by rw [e]; simp⟩) (fun m hm => ?_) (fun b u e => ?_) I.bare
  · have e : b = it := by simpa using hb
    subst e
    exact ⟨h1, hL, h2, h3⟩
  · obtain ⟨o, es, ep, ho, r⟩ := hm
    exact ⟨o, es, ep, k _ o (Ne.symm hL) ho, r⟩
  · refine (I.hok b u e).stay (fun c v hc q => k c v ?_ q) (fun _ q => q) fun _ _ q => q
    rcases hc with z | z
    · rw [z]; exact nit b u e
    · exact nit c _ z
theorem Inv.tok (I : Inv X pins σ H s) (t : Nat) : Inv X pins σ H { s with toks := t } := I.un (h' := s.heap) (t' := t) Un.refl I.hok
theorem Inv.kept {t' : Nat} (I : Inv X pins σ H s) (k : ∀ b u, s.heap.get? b = some u → h'.get? b = some u) : Inv X pins σ H { s with heap := h', toks := t' } := I.un (Un.kept k) (I.hok.kept k)
theorem Inv.laid {a : Addr} {o : HO} {t' : Nat} (I : Inv X pins σ H s) (k : ∀ b u, s.heap.get? b = some u → h'.get? b = some u) (hp : s.heap.objs.size ≤ a) (new : ObjOk X.prog X.w (upd H a o) h' a o) :
    Inv X pins σ (upd H a o) { s with heap := h', toks := t' } := I.un (Un.laid k hp (I.hok.fresh hp)) (I.hok.laid k hp new)
theorem Inv.write {x e : Addr} {o : HO} {t' : Nat} (I : Inv X pins σ H s) (mu : Mut (H x)) (he : e = x ∨ H e = some (.own x)) (k : ∀ b u, b ≠ e → s.heap.get? b = some u → h'.get? b = some u) (heo : ∃ u, h'.get? e = some u)
    (new : ObjOk X.prog X.w (upd H x o) h' x o) : Inv X pins σ (upd H x o) { s with heap := h', toks := t' } := I.un (Un.write mu he k heo) (I.hok.write mu he k heo new)
theorem Inv.pins_of {pins' : List (Addr × Obj)} (I : Inv X pins σ H s) (h : ∀ p ∈ pins', s.heap.get? p.1 = some p.2 ∧ H p.1 = none ∧ p.1 ≠ X.env.locals ∧ p.1 ∉ X.fs ∧ ∀ v, p.2.data ≠ .cell v) : Inv X pins' σ H s :=
  ⟨I.ok, I.os, I.bare, I.base, I.loc, I.cell, I.free, I.freeC, fun p hp => (List.mem_append.mp hp).elim (fun z => I.pin p (List.mem_append_left _ z)) (h p), I.hok, I.len⟩

theorem nodup_ix {N : List Str} (hN : N.Nodup) {i j : Nat} {x : Str} (a : N[i]? = some x) (b : N[j]? = some x) : i = j := by
  obtain ⟨h1, e1⟩ := List.getElem?_eq_some_iff.mp a
  obtain ⟨h2, e2⟩ := List.getElem?_eq_some_iff.mp b
  exact (List.getElem_inj hN).mp (e1.trans e2.symm)

theorem store_ok2 {M : Model} {A : Around} {E : Value → Shared → Prop} {i : Nat} {x : Str} {v : V} {u : Value} {Q : Unit → Shared → Prop} (I : Inv X pins σ H s) (hN : X.N.Nodup) (hi : X.N[i]? = some x) (hx : Loc X.env.scope x) (r : RelV v u)
    (h : ∀ s', Inv X pins (σ.set i (some v)) H s' → (∃ a, Heap.SameBut a s.heap s'.heap ∧ (a = X.env.locals ∨ X.env.cells.lookup x = some a)) → Q () s') (hf : X.fn x = true ∨ X.env.scope.names.lookup x = some .local := by first | exact .inl rfl | exact .inr rfl | assumption) : wpAny M A (storeName X.env x u) Q E s := by
  obtain ⟨m, hn, hl⟩ := id I.loc
  have hcls : (X.env.scope.kind == .class || (X.env.scope.kind == .module && X.env.locals != X.env.globals)) = false := by rw [I.ok.kind]; rfl
  have hiσ : i < σ.length := by rw [I.len]; exact (List.getElem?_eq_some_iff.mp hi).1
  have cne := I.cne
  have tracked : ∀ {a : Addr} {h' : Heap}, (∃ o, s.heap.get? a = some o ∧ H a = none) → Heap.SameBut a s.heap h' → HOk X.prog X.w H h' := fun {a h'} ha hs b ob e => by
    obtain ⟨_, _, hfree⟩ := ha
    refine (I.hok b ob e).stay (fun c w' hc q => (hs.2 c ?_).trans q) (fun _ q => q) fun _ _ q => q
    rintro rfl
    rcases hc with rfl | hc
    · rw [hfree] at e; cases e
    · rw [hfree] at hc; cases hc
  rcases hx with hk | hk
  · refine wpAny_storeName_local hk hn (fun h' hn' hs => ?_) hcls
    obtain ⟨oL, _, _, hoL, _⟩ := id hn
    refine h _ ⟨I.ok, I.os, I.bare, ⟨fun b o e n hb hx => ?_, fun b o e n hb hx => ?_, I.base.free, fun b o e hx => ?_, I.base.tups, I.base.frzs, I.base.tbls⟩, ⟨_, hn', fun j y v' e1 e2 e3 => ?_⟩, fun y c e => ?_, I.free, I.freeC, fun p hp => ?_, tracked ⟨oL, hoL, I.free⟩ hs, by simpa using I.len⟩ ⟨_, hs, .inl rfl⟩
    · exact (hs.2 b (Nat.ne_of_lt (Nat.lt_of_lt_of_le (Heap.lt_size e) I.ok.above))).trans (I.base.keep b o e n hb hx)
    · obtain ⟨sl, e1⟩ := I.base.slot b o e n hb hx
      exact ⟨sl, (hs.2 b (Nat.ne_of_lt (Nat.lt_of_lt_of_le (Heap.lt_size e) I.ok.above))).trans e1⟩
    · obtain ⟨o', e1⟩ := I.base.there b o e hx
      exact ⟨o', (hs.2 b (Nat.ne_of_lt (Nat.lt_of_lt_of_le (Heap.lt_size e) I.ok.above))).trans e1⟩
    · by_cases hj : j = i
      · subst hj
        rw [hi] at e1; cases e1
        rw [List.getElem?_set_self hiσ] at e2
        cases e2
        exact ⟨u, r, .inl ⟨hk, by simp⟩⟩
      · rw [List.getElem?_set_ne (Ne.symm hj)] at e2
        obtain ⟨u', r', q⟩ := hl j y v' e1 e2 e3
        refine ⟨u', r', ?_⟩
        rcases q with ⟨k, e⟩ | ⟨k, c, e, z⟩
        · refine .inl ⟨k, ?_⟩
          have : y ≠ x := fun e => hj (nodup_ix hN e1 (e ▸ hi))
          simp [this, e]
        · exact .inr ⟨k, c, e, z.sameBut hs (cne y c e)⟩
    · obtain ⟨w', z⟩ := I.cell y c e
      exact ⟨w', z.sameBut hs (cne y c e)⟩
    · obtain ⟨e, n, ne, nf, d⟩ := I.pin p hp
      exact ⟨(hs.2 p.1 ne).trans e, n, ne, nf, d⟩
  · have hfn : X.fn x = true := by
      rcases hf with z | z
      · exact z
      · rw [z] at hk; cases hk
    obtain ⟨c, hc⟩ := I.ok.has x (.inl hk)
    obtain ⟨w', z⟩ := I.cell x c hc
    refine wpAny_storeName_cell I.ok.kind hk hc z (fun h' hc' hs => ?_)
    obtain ⟨oc, hoc, hocd⟩ := id z
    refine h { s with heap := h' } ⟨I.ok, I.os, I.bare, ⟨fun b o e n hb hx => ?_, fun b o e n hb hx => ?_, I.base.free, fun b o e hx => ?_, I.base.tups, I.base.frzs, I.base.tbls⟩, ⟨m, hn.sameBut hs (Ne.symm (cne x c hc)), fun j y v' e1 e2 e3 => ?_⟩, fun y c' e => ?_, I.free, I.freeC, fun p hp => ?_, tracked ⟨oc, hoc, I.freeC x c hc⟩ hs, by simpa using I.len⟩ ⟨c, hs, .inr hc⟩
    · exact (hs.2 b (Nat.ne_of_lt (Nat.lt_of_lt_of_le (Heap.lt_size e) (I.ok.cab x c hfn hc)))).trans (I.base.keep b o e n hb hx)
    · obtain ⟨sl, e1⟩ := I.base.slot b o e n hb hx
      exact ⟨sl, (hs.2 b (Nat.ne_of_lt (Nat.lt_of_lt_of_le (Heap.lt_size e) (I.ok.cab x c hfn hc)))).trans e1⟩
    · obtain ⟨o', e1⟩ := I.base.there b o e hx
      exact ⟨o', (hs.2 b (Nat.ne_of_lt (Nat.lt_of_lt_of_le (Heap.lt_size e) (I.ok.cab x c hfn hc)))).trans e1⟩
    · by_cases hj : j = i
      · subst hj
        rw [hi] at e1; cases e1
        rw [List.getElem?_set_self hiσ] at e2
        cases e2
        exact ⟨u, r, .inr ⟨.inl hk, c, hc, hc'⟩⟩
      · rw [List.getElem?_set_ne (Ne.symm hj)] at e2
        obtain ⟨u', r', q⟩ := hl j y v' e1 e2 e3
        refine ⟨u', r', ?_⟩
        rcases q with q | ⟨k, c', e, z'⟩
        · exact .inl q
        · refine .inr ⟨k, c', e, z'.sameBut hs ?_⟩
          rintro rfl
          exact hj (nodup_ix hN e1 (I.ok.inj _ _ _ e hc ▸ hi))
    · by_cases hcc : c' = c
      · subst hcc; exact ⟨_, hc'⟩
      · obtain ⟨w2, z2⟩ := I.cell y c' e
        exact ⟨w2, z2.sameBut hs hcc⟩
    · obtain ⟨e, n, ne, nf, d⟩ := I.pin p hp
      refine ⟨(hs.2 p.1 ?_).trans e, n, ne, nf, d⟩
      intro q
      rw [q, hoc] at e
      have q' : oc = p.2 := Option.some.inj e
      exact d w' (by rw [← q']; exact hocd)
theorem store_ok {M : Model} {A : Around} {E : Value → Shared → Prop} {i : Nat} {x : Str} {v : V} {u : Value} {Q : Unit → Shared → Prop} (I : Inv X pins σ H s) (hN : X.N.Nodup) (hi : X.N[i]? = some x) (hx : Loc X.env.scope x) (r : RelV v u)
    (h : ∀ s', Inv X pins (σ.set i (some v)) H s' → Q () s') (hf : X.fn x = true ∨ X.env.scope.names.lookup x = some .local := by first | exact .inl rfl | exact .inr rfl | assumption) : wpAny M A (storeName X.env x u) Q E s :=
  store_ok2 I hN hi hx r (fun s' I' _ => h s' I') hf
theorem Inv.call' {s' : Shared} {ch : List Addr} (I : Inv X pins σ H s) (ho : s'.os = s.os) (u : Un (frs X.stack) ch H H' s.heap s'.heap) (hok : HOk X.prog X.w H' s'.heap) (hg : AllBare s'.gens)
    (hch : ∀ b ∈ ch, (b ∈ X.ex ∨ X.s₀.heap.objs.size ≤ b) ∧ b ≠ X.env.locals ∧ (∀ x c, X.env.cells.lookup x = some c → c ≠ b) ∧ ∀ p ∈ X.pn ++ pins, p.1 ≠ b) : Inv X pins σ H' s' := by
  obtain ⟨h', g', d', t', o'⟩ := s'
  have e : o' = s.os := ho
  subst e
  exact I.call (g' := g') (t' := t') (d' := d') u hok hg hch
end

abbrev XK := Value → Option Addr → Hp → Prop
abbrev St := List (Option V)
abbrev VK := V → Hp → Prop
abbrev TE := St → Hp → VK → Prop
abbrev TT := St → Hp → (Bool → Hp → Prop) → Prop
abbrev TA := St → Hp → (List V → Hp → Prop) → Prop
structure Ends where
  nx : St → Hp → Prop
  rt : VK
  bk : St → Hp → Prop := fun _ _ => False
  ct : St → Hp → Prop := fun _ _ => False
abbrev TS := Ends → St → Hp → Prop

inductive BlQ (x : V) (H : Hp) (Q : Bool → Hp → Prop) : Prop
  | mk (c : Bool) (e : x = .bl c) (q : Q c H) : BlQ x H Q
inductive AndQ (tb : TE) (σ : St) (x : V) (H : Hp) (Q : VK) : Prop
  | mk (c : Bool) (e : x = .bl c) (q : if c = true then tb σ H Q else Q (.bl false) H) : AndQ tb σ x H Q
inductive OrQ (tb : TE) (σ : St) (x : V) (H : Hp) (Q : VK) : Prop
  | mk (c : Bool) (e : x = .bl c) (q : if c = true then Q (.bl true) H else tb σ H Q) : OrQ tb σ x H Q
inductive NotQ (x : V) (H : Hp) (Q : VK) : Prop
  | mk (c : Bool) (e : x = .bl c) (q : Q (.bl (!c)) H) : NotQ x H Q
inductive IIQ (x y : V) (H : Hp) (k : Int → Int → Hp → Prop) : Prop
  | mk (i j : Int) (e : x = .int i) (e' : y = .int j) (q : k i j H) : IIQ x y H k
inductive PtQ (x : V) (H : Hp) (Q : Option Int → Hp → Prop) : Prop
  | mk (i : Int) (e : x = .int i) (q : Q (some i) H) : PtQ x H Q
inductive ParQ (i j : Nat) (N : St → Hp → Prop) (σ : St) (vs : List V) (H : Hp) : Prop
  | mk (v w : V) (e : vs = [v, w]) (q : N ((σ.set i (some v)).set j (some w)) H) : ParQ i j N σ vs H
inductive EP (X : Cx) (pins : List (Addr × Obj)) (σ : St) (Q : VK) (u : Value) (s' : Shared) : Prop
  | mk (v : V) (H' : Hp) (I : Inv X pins σ H' s') (r : RelV v u) (q : Q v H') : EP X pins σ Q u s'
inductive TP (X : Cx) (pins : List (Addr × Obj)) (σ : St) (Q : Bool → Hp → Prop) (b : Bool) (s' : Shared) : Prop
  | mk (H' : Hp) (I : Inv X pins σ H' s') (q : Q b H') : TP X pins σ Q b s'
inductive AP (X : Cx) (pins : List (Addr × Obj)) (σ : St) (Q : List V → Hp → Prop) (us : List Value) (s' : Shared) : Prop
  | mk (vs : List V) (H' : Hp) (I : Inv X pins σ H' s') (r : Vals vs us) (q : Q vs H') : AP X pins σ Q us s'
theorem EP.elim {X : Cx} {pins : List (Addr × Obj)} {σ : St} {Q : VK} {u : Value} {s' : Shared} {G : Prop} (h : EP X pins σ Q u s') (k : ∀ (v : V) (H' : Hp), Inv X pins σ H' s' → RelV v u → Q v H' → G) : G := by
  cases h with
  | mk v H' I r q => exact k v H' I r q
theorem AP.elim {X : Cx} {pins : List (Addr × Obj)} {σ : St} {Q : List V → Hp → Prop} {us : List Value} {s' : Shared} {G : Prop} (h : AP X pins σ Q us s') (k : ∀ (vs : List V) (H' : Hp), Inv X pins σ H' s' → Vals vs us → Q vs H' → G) : G := by
  cases h with
  | mk v H' I r q => exact k v H' I r q
theorem TP.elim {X : Cx} {pins : List (Addr × Obj)} {σ : St} {Q : Bool → Hp → Prop} {b : Bool} {s' : Shared} {G : Prop} (h : TP X pins σ Q b s') (k : ∀ H' : Hp, Inv X pins σ H' s' → Q b H' → G) : G := by
  cases h with
  | mk H' I q => exact k H' I q
inductive SPN (X : Cx) (pins : List (Addr × Obj)) (N : St → Hp → Prop) (s' : Shared) : Prop
  | mk (σ : St) (H' : Hp) (I : Inv X pins σ H' s') (q : N σ H') : SPN X pins N s'
inductive SPR (X : Cx) (pins : List (Addr × Obj)) (Q : VK) (u : Value) (s' : Shared) : Prop
  | mk (v : V) (σ : St) (H' : Hp) (I : Inv X pins σ H' s') (r : RelV v u) (q : Q v H') : SPR X pins Q u s'
def SP (X : Cx) (pins : List (Addr × Obj)) (D : Ends) (f : Flow) (s' : Shared) : Prop :=
  match f with
  | .next => SPN X pins D.nx s'
  | .brk => SPN X pins D.bk s'
  | .cont => SPN X pins D.ct s'
  | .ret u => SPR X pins D.rt u s'

def PE (X : Cx) (e : Expr) (t : TE) : Prop :=
  ∀ (pins : List (Addr × Obj)) (s : Shared) (σ : St) (H : Hp) (Q : VK), Inv X pins σ H s → t σ H Q → wpAny (model X.prog X.w) X.A (eval e X.env) (EP X pins σ Q) X.xe s
def PT (X : Cx) (e : Expr) (t : TT) : Prop :=
  ∀ (pins : List (Addr × Obj)) (s : Shared) (σ : St) (H : Hp) (Q : Bool → Hp → Prop), Inv X pins σ H s → t σ H Q → wpAny (model X.prog X.w) X.A (isTrue e X.env (eval e X.env)) (TP X pins σ Q) X.xe s
def PW (X : Cx) (e : Expr) (t : TT) : Prop :=
  ∀ (whole : Sem Value) (pins : List (Addr × Obj)) (s : Shared) (σ : St) (H : Hp) (Q : Bool → Hp → Prop), Inv X pins σ H s → t σ H Q → wpAny (model X.prog X.w) X.A (isTrue e X.env whole) (TP X pins σ Q) X.xe s
theorem PW.pt {X : Cx} {e : Expr} {t : TT} (h : PW X e t) : PT X e t := h _
def PA (X : Cx) (es : List Expr) (t : TA) : Prop :=
  ∀ (pos : Pos) (pins : List (Addr × Obj)) (s : Shared) (σ : St) (H : Hp) (Q : List V → Hp → Prop), Inv X pins σ H s → t σ H Q → wpAny (model X.prog X.w) X.A (spliced (backTo pos (starEach es X.env))) (AP X pins σ Q) X.xe s
def PS (X : Cx) (st : Stmt) (t : TS) : Prop :=
  ∀ (pins : List (Addr × Obj)) (s : Shared) (σ : St) (H : Hp) (D : Ends), Inv X pins σ H s → t D σ H → wpAny (model X.prog X.w) X.A (exec st X.env) (SP X pins D) X.xe s
def PSs (X : Cx) (st : List Stmt) (t : TS) : Prop :=
  ∀ (pins : List (Addr × Obj)) (s : Shared) (σ : St) (H : Hp) (D : Ends), Inv X pins σ H s → t D σ H → wpAny (model X.prog X.w) X.A (execs st X.env) (SP X pins D) X.xe s
theorem thn {α : Type} {t : Sem α} {Q Q' : α → Shared → Prop} {M : Model} {A : Around} {E : Value → Shared → Prop} {s : Shared} (h : wpAny M A t Q E s) (hQ : ∀ a s, Q a s → Q' a s) : wpAny M A t Q' E s := wpAny_mono h hQ fun _ _ x => x
end L2

namespace L2
open PySem PySem.Spec PyProof.Rows
section
variable {X : Cx}

inductive tVarI (i : Nat) (σ : St) (H : Hp) (Q : VK) : Prop
  | mk (v : _) (x0 : σ[i]? = some (some v)) (x1 : Q v H) : tVarI i σ H Q
def tVar (i : Nat) : TE := fun σ H Q => tVarI i σ H Q
def tC (v : V) : TE := fun _ H Q => Q v H
theorem pe_var {i : Nat} {x : Str} {pos : Pos} (hN : X.N[i]? = some x) (hv : Vis X.env.scope x) (hd : (x == ("__debug__" : Str)) = false := by decide) (hcd : (x == ("__classdict__" : Str)) = false := by decide) : PE X (.Name x pos) (tVar i) := by
  intro pins s σ H Q I h
  obtain ⟨v, e, h⟩ := h
  obtain ⟨m, hn, hl⟩ := I.loc
  obtain ⟨u, r, l⟩ := hl i x v hN e hv
  have fin : EP X pins σ Q u s := ⟨v, H, I, r, h⟩
  rcases l with ⟨hk, hm⟩ | ⟨hk, c, hc, hcell⟩
  · exact wpAny_Name (wpAny_loadName_local I.ok.kind hk hn hm fin) hd
  · rcases hk with hk | hk
    · exact wpAny_Name (wpAny_loadName_cell I.ok.kind hk hc hcell fin) hd
    · exact wpAny_Name (wpAny_loadName_free I.ok.kind hk hc hcell fin hcd) hd
theorem pe_int {i j pos} : PE X (.Constant (.int i) j pos) (tC (.int i)) := fun _ _ _ H _ I h => wpAny_Constant_int ⟨.int i, H, I.tok _, ⟨_, rfl⟩, h⟩
theorem pe_bl {b j pos} : PE X (.Constant (.bool b) j pos) (tC (.bl b)) := fun _ _ _ H _ I h => Constant_bool ⟨.bl b, H, I, rfl, h⟩
theorem pe_str {x j pos} : PE X (.Constant (.str x) j pos) (tC (.str x)) := fun _ _ _ H _ I h => Calls.Constant_str ⟨.str x, H, I.tok _, ⟨_, rfl⟩, h⟩

def Gl (X : Cx) (x : Str) : Prop := X.env.kindOf x = some .globalImplicit
theorem ld_glob {E : Value → Shared → Prop} {pins : List (Addr × Obj)} {s : Shared} {σ : St} {H : Hp} {x : Str} {u : Value} {pos : Pos} {Q : Value → Shared → Prop} (I : Inv X pins σ H s) (hg : Gl X x) (hm : X.mg x = some u) (h : Q u s)
    (hd : (x == ("__debug__" : Str)) = false := by decide) : wpAny (model X.prog X.w) X.A (eval (.Name x pos) X.env) Q E s :=
  Calls.Name_function_global I.ok.kind hg (Calls.loadGlobal_global (by rw [I.ok.glob]; exact I.mod.glob.keeps I.bk) hm h) hd
theorem ld_blt {E : Value → Shared → Prop} {pins : List (Addr × Obj)} {s : Shared} {σ : St} {H : Hp} {x : Str} {u : Value} {pos : Pos} {Q : Value → Shared → Prop} (I : Inv X pins σ H s) (hg : Gl X x) (hm : X.mg x = none) (hv : bootBuiltins x = some u) (h : Q u s)
    (hn : x ≠ "__name__" := by decide) (hd : (x == ("__debug__" : Str)) = false := by decide) : wpAny (model X.prog X.w) X.A (eval (.Name x pos) X.env) Q E s := by
  obtain ⟨mb, h1, h2⟩ := I.mod.blt
  exact Calls.Name_function_global I.ok.kind hg (Calls.loadGlobal_builtin (by rw [I.ok.glob]; exact I.mod.glob.keeps I.bk) hm (by rw [I.ok.blt]; exact h1.keeps I.bk) ((h2 x hn).trans hv) h) hd
theorem pe_bltn {x : Str} {v : V} {u : Value} {pos : Pos} (hg : Gl X x) (hm : X.mg x = none) (hv : bootBuiltins x = some u) (r : RelV v u) (hn : x ≠ "__name__" := by decide) (hd : (x == ("__debug__" : Str)) = false := by decide) : PE X (.Name x pos) (tC v) :=
  fun _ _ _ H _ I h => ld_blt I hg hm hv ⟨v, H, I, r, h⟩ hn hd

variable {a b : Expr} {ta tb : TE} {pos : Pos}
def PC (X : Cx) (op : CmpOp) (a b : Expr) (t : TE) : Prop :=
  ∀ (pins : List (Addr × Obj)) (s : Shared) (σ : St) (H : Hp) (Q : VK), Inv X pins σ H s → t σ H Q →
    wpAny (model X.prog X.w) X.A (eval a X.env) (fun v s₁ => wpAny (model X.prog X.w) X.A (eval b X.env) (fun u s₂ => wpAny (model X.prog X.w) X.A (compareOp op v u) (EP X pins σ Q) X.xe s₂) X.xe s₁) X.xe s
def tB (t : TE) : TT := fun σ H Q => t σ H fun x H1 => BlQ x H1 Q
theorem pe_cmp {op : CmpOp} {t : TE} (h : PC X op a b t) (h1 : behindInMarks op b = false := by first | exact nobehind _ (by decide) (by decide) | rfl) : PE X (.Compare a [op] [b] pos) t := fun pins s σ H Q I hw => wpAny_Compare1 (h pins s σ H Q I hw) h1
theorem pt_cmp {op : CmpOp} {t : TE} (h : PC X op a b t) (h1 : behindInMarks op b = false := by first | exact nobehind _ (by decide) (by decide) | rfl) : PT X (.Compare a [op] [b] pos) (tB t) := by
  intro pins s σ H Q I hw
  refine wpAny_isTrue_Compare1 (thn (h pins s σ H _ I hw) fun v s1 h1 => thn h1 fun u s2 h2 => thn h2 fun c s3 zq => zq.elim fun x H1 I1 r1 q1 => ?_) h1
  obtain ⟨d, rfl, q⟩ := q1
  cases r1
  exact wpAny_truthy_bool ⟨H1, I1, q⟩
theorem pt_val {e : Expr} {t : TE} (h : PE X e t) (he : ∀ whole, isTrue e X.env whole = (do let v ← whole; standAt e.pos; holding [v] (truthy v)) := by intro _; rfl) : PT X e (tB t) := by
  intro pins s σ H Q I hw
  refine isTrue_plain (thn (h pins s σ H _ I hw) fun v s1 zq => zq.elim fun x H1 I1 r1 q1 => ?_) (he _)
  obtain ⟨d, rfl, q⟩ := q1
  cases r1
  exact wpAny_truthy_bool ⟨H1, I1, q⟩

variable {tA tB' : TT} {rest : List Expr}
def tAnd (t u : TT) : TT := fun σ H Q => t σ H fun c H1 => if c = true then u σ H1 Q else Q false H1
def tOr (t u : TT) : TT := fun σ H Q => t σ H fun c H1 => if c = true then Q true H1 else u σ H1 Q
def tNot (t : TT) : TT := fun σ H Q => t σ H fun c H1 => Q (!c) H1
theorem pw_and1 (ha : PT X a tA) : PW X (.BoolOp .And [a] pos) tA := by
  intro wh pins s σ H Q I h
  refine isTrue_and (thn (ha pins s σ H Q I h) fun c s1 e => ?_)
  cases c with
  | true => exact isTrue_and_nil e
  | false => exact e
theorem pw_or1 (ha : PT X a tA) : PW X (.BoolOp .Or [a] pos) tA := by
  intro wh pins s σ H Q I h
  refine isTrue_or (thn (ha pins s σ H Q I h) fun c s1 e => ?_)
  cases c with
  | false => exact isTrue_or_nil e
  | true => exact e
theorem pw_and (ha : PT X a tA) (hb : PW X (.BoolOp .And (b :: rest) pos) tB') : PW X (.BoolOp .And (a :: b :: rest) pos) (tAnd tA tB') := by
  intro wh pins s σ H Q I h
  refine isTrue_and (thn (ha pins s σ H _ I h) fun c s1 zq => zq.elim fun H1 I1 q1 => ?_)
  cases c with
  | true => exact hb wh pins s1 σ H1 Q I1 q1
  | false => exact ⟨H1, I1, q1⟩
theorem pw_or (ha : PT X a tA) (hb : PW X (.BoolOp .Or (b :: rest) pos) tB') : PW X (.BoolOp .Or (a :: b :: rest) pos) (tOr tA tB') := by
  intro wh pins s σ H Q I h
  refine isTrue_or (thn (ha pins s σ H _ I h) fun c s1 zq => zq.elim fun H1 I1 q1 => ?_)
  cases c with
  | true => exact ⟨H1, I1, q1⟩
  | false => exact hb wh pins s1 σ H1 Q I1 q1
theorem pt_not (ha : PT X a tA) : PT X (.UnaryOp .Not a pos) (tNot tA) := by
  intro pins s σ H Q I h
  exact isTrue_not (thn (ha pins s σ H (fun c H1 => Q (!c) H1) I h) fun c s1 zq => zq.elim fun H1 I1 q1 => ⟨H1, I1, q1⟩)
def tAndV (ta tb : TE) : TE := fun σ H Q => ta σ H fun x H1 => AndQ tb σ x H1 Q
def tOrV (ta tb : TE) : TE := fun σ H Q => ta σ H fun x H1 => OrQ tb σ x H1 Q
theorem pe_one {op} {t : TE} (h : PE X a t) : PE X (.BoolOp op [a] pos) t := fun pins s σ H Q I hw => BoolOp_one (h pins s σ H Q I hw)
theorem pe_and (ha : PE X a ta) (hb : PE X (.BoolOp .And (b :: rest) pos) tb) : PE X (.BoolOp .And (a :: b :: rest) pos) (tAndV ta tb) := by
  intro pins s σ H Q I h
  refine BoolOp_and (thn (ha pins s σ H _ I h) fun v s1 zq => zq.elim fun x H1 I1 r1 q1 => ?_)
  obtain ⟨c, rfl, q1⟩ := q1
  cases r1
  refine wpAny_truthy_bool ?_
  cases c with
  | true => exact hb pins s1 σ H1 Q I1 q1
  | false => exact ⟨.bl false, H1, I1, rfl, q1⟩
theorem pe_or (ha : PE X a ta) (hb : PE X (.BoolOp .Or (b :: rest) pos) tb) : PE X (.BoolOp .Or (a :: b :: rest) pos) (tOrV ta tb) := by
  intro pins s σ H Q I h
  refine BoolOp_or (thn (ha pins s σ H _ I h) fun v s1 zq => zq.elim fun x H1 I1 r1 q1 => ?_)
  obtain ⟨c, rfl, q1⟩ := q1
  cases r1
  refine wpAny_truthy_bool ?_
  cases c with
  | false => exact hb pins s1 σ H1 Q I1 q1
  | true => exact ⟨.bl true, H1, I1, rfl, q1⟩
end
end L2

namespace L2
open PySem PySem.Spec PyProof.Rows

def SqL (K : PySem.W.Frag) (H : Hp) (a : Addr) (xs : List V) : Prop :=
  Rd H a (.lst xs) ∨
    ∃ (o : Obj) (its : Array Value) (n : Nat), K.lookup a = some o ∧ o.cls = .type "list" ∧ o.dict = none ∧ o.data = .seq its n ∧ its.size ≤ sizeLine ∧ Vals xs its.toList
def SqT (K : PySem.W.Frag) (H : Hp) (a : Addr) (xs : List V) : Prop :=
  Rd H a (.tup xs) ∨
    ∃ (o : Obj) (its : Array Value) (n : Nat), K.lookup a = some o ∧ o.cls = .type "tuple" ∧ o.data = .seq its n ∧ its.size ≤ sizeLine ∧ Vals xs its.toList
def absV : Value → Option V
  | .none => some .non
  | .bool b => some (.bl b)
  | .int i _ => some (.int i)
  | .str x _ => some (.str x)
  | .bytes b _ => some (.byt b)
  | .float b _ => some (.flt b)
  | .ref a => some (.ref a)
  | .type n => some (.ty n)
  | _ => none
theorem RelV.abs {x : V} {u : Value} (r : RelV x u) : absV u = some x := by
  cases x with
  | non => cases r; rfl
  | bl _ => cases r; rfl
  | int _ => obtain ⟨t, rfl⟩ := r; rfl
  | str _ => obtain ⟨t, rfl⟩ := r; rfl
  | byt _ => obtain ⟨t, rfl⟩ := r; rfl
  | flt _ => obtain ⟨t, rfl⟩ := r; rfl
  | ref _ => cases r; rfl
  | ty _ => cases r; rfl
theorem RelV.inj {x y : V} {u : Value} (r : RelV x u) (q : RelV y u) : x = y := Option.some.inj (r.abs.symm.trans q.abs)
theorem Vals.inj {xs ys : List V} {us : List Value} (r : Vals xs us) (s : Vals ys us) : xs = ys := by
  induction r generalizing ys with
  | nil => exact (List.eq_nil_of_length_eq_zero (Paired.length s)).symm
  | cons a _ ih =>
    cases ys with
    | nil => exact absurd (Paired.length s) (Nat.succ_ne_zero _).symm
    | cons y yr =>
      obtain ⟨u, ur, e, h, t⟩ := Vals.inv s
      injection e with e1 e2
      subst e1 e2
      rw [a.inj h, ih t]
section
variable {X : Cx} {pins : List (Addr × Obj)} {σ : St} {H : Hp} {s : Shared} {a : Addr} {xs ys : List V}
theorem SqL.of {K : PySem.W.Frag} (h : H a = some (.lst xs)) : SqL K H a xs := .inl (.inl h)
theorem SqT.of {K : PySem.W.Frag} (h : H a = some (.tup xs)) : SqT K H a xs := .inl (.inl h)
theorem Inv.list (I : Inv X pins σ H s) (h : SqL X.K H a xs) : ∃ its : List Value, Vals xs its ∧ PlainL s.heap a its.toArray ∧ xs.length ≤ sizeLine := by
  rcases h with h | ⟨o, its, n, hk, hc, hd, hs, hz, r⟩
  · obtain ⟨z, its, n, r, e⟩ := h.ok I.hok
    exact ⟨its, r, ⟨_, n, e, rfl, rfl, rfl⟩, z⟩
  · refine ⟨its.toList, r, ⟨o, n, I.kIn a o hk, hc, hd, by simpa using hs⟩, ?_⟩
    have e := r.length
    simp only [Array.length_toList] at e
    omega
theorem Inv.tuple (I : Inv X pins σ H s) (h : SqT X.K H a xs) : ∃ its : List Value, Vals xs its ∧ IsTup s.heap a its.toArray ∧ xs.length ≤ sizeLine := by
  rcases h with h | ⟨o, its, n, hk, hc, hs, hz, r⟩
  · obtain ⟨z, its, r, p⟩ := h.ok I.hok
    exact ⟨its, r, p, z⟩
  · refine ⟨its.toList, r, ⟨o, I.kIn a o hk, hc, n, by simpa using hs⟩, ?_⟩
    have e := r.length
    simp only [Array.length_toList] at e
    omega
theorem Inv.list_inj (I : Inv X pins σ H s) (h : SqL X.K H a xs) (h' : SqL X.K H a ys) : xs = ys := by
  obtain ⟨its, r, ⟨o, n, e, _, _, d⟩, _⟩ := I.list h
  obtain ⟨its', r', ⟨o', n', e', _, _, d'⟩, _⟩ := I.list h'
  rw [e] at e'; cases e'
  rw [d] at d'
  injection d' with d1 _
  have : its = its' := by simpa using congrArg Array.toList d1
  subst this
  exact r.inj r'
theorem Inv.tuple_inj (I : Inv X pins σ H s) (h : SqT X.K H a xs) (h' : SqT X.K H a ys) : xs = ys := by
  obtain ⟨its, r, ⟨o, e, _, n, d⟩, _⟩ := I.tuple h
  obtain ⟨its', r', ⟨o', e', _, n', d'⟩, _⟩ := I.tuple h'
  rw [e] at e'; cases e'
  rw [d] at d'
  injection d' with d1 _
  have : its = its' := by simpa using congrArg Array.toList d1
  subst this
  exact r.inj r'
end

abbrev Cx.wish (X : Cx) (E : Value → Shared → Prop) : Cx := { X with xe := E }
abbrev Cx.nox (X : Cx) : Cx := X.wish fun _ _ => False
theorem Cx.Ok.wish {X : Cx} (ok : X.Ok) (E : Value → Shared → Prop) : (X.wish E).Ok :=
  ⟨ok.mod, ok.kind, ok.glob, ok.blt, ok.above, ok.inj, ok.has, ok.cab, ok.hd, ok.frames, ok.stk, ok.exf, ok.bs, ok.bsz, ok.noex, ok.exfs, ok.funs, ok.frf⟩
theorem Cx.Ok.unwish {X : Cx} {E : Value → Shared → Prop} (ok : (X.wish E).Ok) : X.Ok :=
  ⟨ok.mod, ok.kind, ok.glob, ok.blt, ok.above, ok.inj, ok.has, ok.cab, ok.hd, ok.frames, ok.stk, ok.exf, ok.bs, ok.bsz, ok.noex, ok.exfs, ok.funs, ok.frf⟩
section
variable {X : Cx} {pins : List (Addr × Obj)} {σ : St} {H : Hp} {s : Shared} {E : Value → Shared → Prop}
theorem Inv.wish (I : Inv X pins σ H s) (E : Value → Shared → Prop) : Inv (X.wish E) pins σ H s := ⟨I.ok.wish E, I.os, I.bare, I.base, I.loc, I.cell, I.free, I.freeC, I.pin, I.hok, I.len⟩
theorem Inv.unwish (I : Inv (X.wish E) pins σ H s) : Inv X pins σ H s := ⟨I.ok.unwish, I.os, I.bare, I.base, I.loc, I.cell, I.free, I.freeC, I.pin, I.hok, I.len⟩
theorem SP.unwish {D : Ends} {f : Flow} {s' : Shared} (h : SP (X.wish E) pins D f s') : SP X pins D f s' := by
  cases f with
  | next => obtain ⟨σ', H', I, q⟩ := h; exact ⟨σ', H', I.unwish, q⟩
  | brk => obtain ⟨σ', H', I, q⟩ := h; exact ⟨σ', H', I.unwish, q⟩
  | cont => obtain ⟨σ', H', I, q⟩ := h; exact ⟨σ', H', I.unwish, q⟩
  | ret u => obtain ⟨v, σ', H', I, r, q⟩ := h; exact ⟨v, σ', H', I.unwish, r, q⟩
theorem PSs.nox {st : List Stmt} {t : TS} (h : PSs X.nox st t) : PSs X st t := fun pins s σ H D I hw =>
  wpAny_mono (h pins s σ H D (I.wish _) hw) (fun _ _ q => q.unwish) fun _ _ z => False.elim z
end

section
variable {X : Cx} {st : Stmt} {rest : List Stmt} {t u : TS} {e : Expr} {te : TE} {pos : Pos}
def tNext : TS := fun D σ H => D.nx σ H
def tSeq (t u : TS) : TS := fun D σ H => t { D with nx := u D } σ H
theorem pss_nil : PSs X [] tNext := fun _ _ σ H _ I h => wpAny_execs_nil ⟨σ, H, I, h⟩
theorem pss_cons (h1 : PS X st t) (h2 : PSs X rest u) : PSs X (st :: rest) (tSeq t u) := by
  intro pins s σ H D I h
  refine wpAny_execs_cons (thn (h1 pins s σ H { D with nx := u D } I h) fun f s1 q => ?_)
  cases f with
  | next =>
    obtain ⟨σ', H', I', q⟩ := q
    exact h2 pins s1 σ' H' D I' q
  | ret v => exact q
  | brk => exact q
  | cont => exact q
theorem pss_one (h1 : PS X st t) : PSs X [st] t := by
  intro pins s σ H D I h
  refine wpAny_execs_cons (thn (h1 pins s σ H D I h) fun f s1 q => ?_)
  cases f with
  | next => exact wpAny_execs_nil q
  | ret v => exact q
  | brk => exact q
  | cont => exact q
theorem Inv.quiet {pins : List (Addr × Obj)} {σ : St} {H : Hp} {s : Shared} (I : Inv X pins σ H s) : interactive X.env = false := by simp [interactive, I.ok.kind]
def tDrop (te : TE) : TS := fun D σ H => te σ H fun _ H1 => D.nx σ H1
theorem ps_expr (he : PE X e te) (hs : swapsWith e none pos.line X.env = pure false := by rfl) : PS X (.Expr e pos) (tDrop te) := by
  intro pins s σ H D I h
  exact wpAny_Expr_any (thn (he pins s σ H _ I h) fun v s1 zq => zq.elim fun x H1 I1 r1 q1 => ⟨σ, H1, I1, q1⟩) I.quiet hs
def tRet (te : TE) : TS := fun D σ H => te σ H D.rt
theorem ps_ret (he : PE X e te) : PS X (.Return (some e) pos) (tRet te) := by
  intro pins s σ H D I h
  exact wpAny_Return_some (thn (he pins s σ H _ I h) fun v s1 zq => zq.elim fun x H1 I1 r1 q1 => ⟨x, σ, H1, I1, r1, q1⟩)
def tIfS (c : TT) (t u : TS) : TS := fun D σ H => c σ H fun b H1 => if b = true then t D σ H1 else u D σ H1
theorem ps_if {c : Expr} {a b : List Stmt} {tc : TT} (hc : PT X c tc) (ha : PSs X a t) (hb : PSs X b u) : PS X (.If c a b pos) (tIfS tc t u) := by
  intro pins s σ H D I h
  refine wpAny_If (thn (hc pins s σ H _ I h) fun d s1 zq => zq.elim fun H1 I1 q1 => ?_)
  cases d with
  | true => exact ha pins s1 σ H1 D I1 q1
  | false => exact hb pins s1 σ H1 D I1 q1
end

abbrev TG := V → St → Hp → (St → Hp → Prop) → Prop
abbrev TGs := List V → St → Hp → (St → Hp → Prop) → Prop
def PG (X : Cx) (target : Expr) (t : TG) : Prop :=
  ∀ (pins : List (Addr × Obj)) (s : Shared) (σ : St) (H : Hp) (v : V) (u : Value) (Q : St → Hp → Prop), Inv X pins σ H s → RelV v u → t v σ H Q →
    wpAny (model X.prog X.w) X.A (assign target X.env u) (fun _ s' => ∃ σ' H', Inv X pins σ' H' s' ∧ Q σ' H') X.xe s
abbrev TSet := V → V → V → Hp → (Hp → Prop) → Prop
def PSet (X : Cx) (t : TSet) : Prop :=
  ∀ (pins : List (Addr × Obj)) (s : Shared) (σ : St) (H : Hp) (o i v : V) (ov iv u : Value) (Q : Hp → Prop), Inv X pins σ H s → RelV o ov → RelV i iv → RelV v u → t o i v H Q →
    wpAny (model X.prog X.w) X.A (setItem ov iv u) (fun _ s' => ∃ H', Inv X pins σ H' s' ∧ Q H') X.xe s
abbrev TIp := V → V → Hp → VK → Prop
section
variable {X : Cx} {pos : Pos}
def gName (i : Nat) : TG := fun v σ H Q => Q (σ.set i (some v)) H
theorem pg_name {i : Nat} {x : Str} (hN : X.N.Nodup) (hi : X.N[i]? = some x) (hx : Loc X.env.scope x) (hf : X.fn x = true ∨ X.env.scope.names.lookup x = some .local := by first | exact .inl rfl | exact .inr rfl | assumption) : PG X (.Name x pos) (gName i) := by
  intro pins s σ H v u Q I r h
  exact wpAny_assign_Name (store_ok I hN hi hx r (fun s' I' => ⟨_, H, I', h⟩) hf)
inductive gConsI (t : TG) (u : TGs) (vs : List V) (σ : St) (H : Hp) (Q : (St → Hp → Prop)) : Prop
  | mk (v : _) (r : _) (x0 : vs = v :: r) (x1 : t v σ H fun σ' H' => u r σ' H' Q) : gConsI t u vs σ H Q
inductive gTupI (K : PySem.W.Frag) (n : Nat) (t : TGs) (v : V) (σ : St) (H : Hp) (Q : (St → Hp → Prop)) : Prop
  | mk (a : _) (xs : _) (x0 : v = .ref a) (x1 : SqT K H a xs) (x2 : xs.length = n) (x3 : t xs σ H Q) : gTupI K n t v σ H Q
def gSub (to ti : TE) (t : TSet) : TG := fun v σ H Q => to σ H fun o H1 => ti σ H1 fun i H2 => t o i v H2 fun H3 => Q σ H3
theorem pg_sub {o i : Expr} {to ti : TE} {t : TSet} (ho : PE X o to) (hi : PE X i ti) (hs : PSet X t)
    (ha : ∀ v, assign (.Subscript o i pos) X.env v = (do
      let ov ← holding [v] (eval o X.env)
      let iv ← holding [v, ov] (eval i X.env)
      standAt pos
      holding [v, ov, iv] (setItem ov iv v)
      release [v, ov, iv] []) := by intro _; rfl) : PG X (.Subscript o i pos) (gSub to ti t) := by
  intro pins s σ H v u Q I r h
  rw [ha]
  refine wpAny_bind (wpAny_holding (thn (ho pins s σ H _ I h) fun ov s1 zq => zq.elim fun x H1 I1 r1 q1 => ?_))
  refine wpAny_bind (wpAny_holding (thn (hi pins s1 σ H1 _ I1 q1) fun iv s2 zq => zq.elim fun y H2 I2 r2 q2 => ?_))
  refine wpAny_bind (wpAny_standAt (wpAny_bind (wpAny_holding (thn (hs pins s2 σ H2 x y v ov iv u _ I2 r1 r2 r q2) fun _ s3 ⟨H3, I3, q3⟩ => ?_))))
  exact wpAny_release ⟨σ, H3, I3, q3⟩
def tAsg (te : TE) (g : TG) : TS := fun D σ H => te σ H fun x H1 => g x σ H1 D.nx
theorem ps_asg {tg e : Expr} {te : TE} {g : TG} (he : PE X e te) (hg : PG X tg g) (hs : swapsWithSole [tg] e pos.line X.env = pure false := by rfl) (hw : swappedStores [tg] e X.env = pure none := by rfl)
    (h1 : (assignEach [tg] X.env).map (·.2) = [assign tg X.env] := by rfl) : PS X (.Assign [tg] e pos) (tAsg te g) := by
  intro pins s σ H D I h
  refine wpAny_Assign_stores (thn (he pins s σ H _ I h) fun v s1 zq => zq.elim fun x H1 I1 r1 q1 => ?_) hs hw
  rw [h1]
  exact thn (hg pins s1 σ H1 x v _ I1 r1 q1) fun _ s2 ⟨σ', H', I', q'⟩ => ⟨σ', H', I', q'⟩
theorem ps_set {i : Nat} {x : Str} {e : Expr} {te : TE} {pos' : Pos} (hN : X.N.Nodup) (hi : X.N[i]? = some x) (hx : Loc X.env.scope x) (he : PE X e te) (hs : swapsWith e (some (.Name x pos')) pos.line X.env = pure false := by rfl) (hf : X.fn x = true ∨ X.env.scope.names.lookup x = some .local := by first | exact .inl rfl | exact .inr rfl | assumption) :
    PS X (.Assign [.Name x pos'] e pos) (tAsg te (gName i)) := by
  intro pins s σ H D I h
  refine wpAny_Assign_Name (thn (he pins s σ H _ I h) fun v s1 zq => zq.elim fun y H1 I1 r1 q1 => ?_) hs
  exact store_ok I1 hN hi hx r1 (fun s2 I2 => ⟨_, H1, I2, q1⟩) hf
inductive tAugI (i : Nat) (te : TE) (ti : TIp) (D : Ends) (σ : St) (H : Hp) : Prop
  | mk (x : _) (x0 : σ[i]? = some (some x)) (x1 : te σ H fun y H1 => ti x y H1 fun z H2 => D.nx (σ.set i (some z)) H2) : tAugI i te ti D σ H
inductive ipII (f : Int → Int → Int) (x : V) (y : V) (H : Hp) (Q : VK) : Prop
  | mk (i : _) (j : _) (x0 : x = .int i) (x1 : y = .int j) (x2 : Q (.int (f i j)) H) : ipII f x y H Q
end

section
variable {X : Cx} {pos : Pos}
inductive tWhileI (c : TT) (tb : TS) (D : Ends) (σ : St) (H : Hp) : Prop
  | mk (W : Nat → St → Hp → Prop) (x0 : (∃ m, W m σ H)) (x1 : ∀ m σ H, W m σ H → c σ H fun b H1 => if b = true then ∃ N : St → Hp → Prop, (∀ σ' H', N σ' H' → ∃ m', m' < m ∧ W m' σ' H') ∧ tb { D with nx := N, ct := N, bk := D.nx } σ H1 else D.nx σ H1) : tWhileI c tb D σ H
def tWhile (c : TT) (tb : TS) : TS := fun D σ H => tWhileI c tb D σ H
theorem ps_while {c : Expr} {body : List Stmt} {tc : TT} {tb : TS} (hp : PassesOwn (model X.prog X.w) X.A X.env X.xe) (hc : PT X c tc) (hb : PSs X body tb) : PS X (.While c body [] pos) (tWhile tc tb) := by
  intro pins s σ H D I h
  obtain ⟨W, ⟨m0, w0⟩, turn⟩ := h
  refine wpAny_While (codeAny_whileLoop (fun n s' => ∃ σ' H', Inv X pins σ' H' s' ∧ W n σ' H') ?_ m0 ⟨σ, H, I, w0⟩)
  rintro n s1 ⟨σ1, H1, I1, w1⟩
  refine wpAny_passesOwn hp (thn (hc pins s1 σ1 H1 _ I1 (turn n σ1 H1 w1)) fun b s2 zq => zq.elim fun H2 I2 q2 => ?_)
  cases b with
  | true =>
    obtain ⟨N, hN, q2⟩ := q2
    rw [if_pos rfl]
    refine wpAny_passesOwn hp (thn (hb pins s2 σ1 H2 _ I2 q2) fun f s3 q3 => ?_)
    cases f with
    | next =>
      obtain ⟨σ3, H3, I3, n3⟩ := q3
      obtain ⟨m', hm, w3⟩ := hN σ3 H3 n3
      exact ⟨m', hm, σ3, H3, I3, w3⟩
    | cont =>
      obtain ⟨σ3, H3, I3, n3⟩ := q3
      obtain ⟨m', hm, w3⟩ := hN σ3 H3 n3
      exact ⟨m', hm, σ3, H3, I3, w3⟩
    | brk => exact q3
    | ret v => exact q3
  | false =>
    rw [if_neg Bool.false_ne_true]
    exact wpAny_execs_nil ⟨σ1, H2, I2, q2⟩
end

structure It where
  go : Nat → Hp → Prop
  yld : Nat → Hp → V → Hp → Prop
  stop : Nat → Hp → Prop
def FpOk (X : Cx) (pins : List (Addr × Obj)) (H : Hp) (b : Addr) : Prop :=
  H b = none ∧ b ≠ X.env.locals ∧ b ∉ X.fs ∧ (b ∈ X.ex ∨ X.s₀.heap.objs.size ≤ b) ∧ (∀ x c, X.env.cells.lookup x = some c → c ≠ b) ∧ ∀ p ∈ X.pn ++ pins, p.1 ≠ b
theorem Inv.fpOk {X : Cx} {pins : List (Addr × Obj)} {σ : St} {H H' : Hp} {s : Shared} {b : Addr} (I : Inv X pins σ H s) (hb : s.heap.objs.size ≤ b) (hn : H' b = none) : FpOk X pins H' b := by
  refine ⟨hn, Nat.ne_of_gt (Nat.lt_of_lt_of_le I.lt hb), I.nofs hb, .inr (Nat.le_trans I.sz hb), fun x c e z => ?_, fun p hp z => ?_⟩
  · obtain ⟨v, q⟩ := I.cell x c e
    exact absurd (Nat.lt_of_lt_of_le q.lt (by rw [z]; exact hb)) (Nat.lt_irrefl _)
  · exact absurd (Nat.lt_of_lt_of_le (Heap.lt_size (I.pin p hp).1) (by rw [z]; exact hb)) (Nat.lt_irrefl _)
structure Turn (P : Program) (w : World) (K : PySem.W.Frag) (tg : Expr) (J : It) (fp : List Addr) (it : Addr) (tn : Nat → Heap → Prop) : Prop where
  mem : it ∈ fp
  obj : ∀ i h, tn i h → ∀ b ∈ fp, ∃ o, h.get? b = some o ∧ ∀ v, o.data ≠ .cell v
  keep : ∀ i h h', tn i h → (∀ b ∈ fp, ∀ o, h.get? b = some o → h'.get? b = some o) → tn i h'
  item : ∀ (X : Cx), X.prog = P → X.w = w → X.K = K → X.calm = true → ∀ (i : Nat) (pins : List (Addr × Obj)) (s : Shared) (σ : St) (H : Hp) (E : Value → Shared → Prop), Inv X pins σ H s → (∀ b ∈ fp, FpOk X pins H b) → tn i s.heap → J.go i H →
    wpAny (model P w) X.A (pyNext (.ref it)) (fun r s1 => ∃ u, r = some u ∧
      wpAny (model P w) X.A (letOwnedTupleGo tg (.ref it) u) (fun _ s2 => ∃ x H', Inv X pins σ H' s2 ∧ RelV x u ∧ J.yld i H x H' ∧ tn (i + 1) s2.heap ∧ ∀ b ∈ fp, H' b = none) E s1) E s
  done : ∀ (X : Cx), X.prog = P → X.w = w → X.K = K → X.calm = true → ∀ (i : Nat) (pins : List (Addr × Obj)) (s : Shared) (σ : St) (H : Hp) (E : Value → Shared → Prop), Inv X pins σ H s → (∀ b ∈ fp, FpOk X pins H b) → tn i s.heap → J.stop i H →
    wpAny (model P w) X.A (pyNext (.ref it)) (fun r s1 => r = none ∧ Inv X pins σ H s1) E s
  self : ∀ (A : Around) (i : Nat) (s : Shared) (Q : Value → Shared → Prop) (E : Value → Shared → Prop), tn i s.heap → Q (.ref it) s → wpAny (model P w) A (pyIter (.ref it)) Q E s
abbrev TI := St → Hp → (It → Hp → Prop) → Prop
inductive PIE (X : Cx) (pins : List (Addr × Obj)) (σ : St) (tg : Expr) (R : It → Hp → Prop) (itv : Value) (s2 : Shared) : Prop
  | mk (it : Addr) (fp : List Addr) (tn : Nat → Heap → Prop) (J : It) (H' : Hp) (e : itv = .ref it) (I : Inv X pins σ H' s2) (t : Turn X.prog X.w X.K tg J fp it tn) (z : tn 0 s2.heap) (f : ∀ b ∈ fp, FpOk X pins H' b) (q : R J H') : PIE X pins σ tg R itv s2
def PI (X : Cx) (tg iter : Expr) (wi : TI) : Prop :=
  ∀ (pins : List (Addr × Obj)) (s : Shared) (σ : St) (H : Hp) (R : It → Hp → Prop), Inv X pins σ H s → wi σ H R →
    wpAny (model X.prog X.w) X.A (eval iter X.env) (fun v s1 => wpAny (model X.prog X.w) X.A (pyIter v) (PIE X pins σ tg R) X.xe s1) X.xe s

theorem go_of {M : Model} {A : Around} {E : Value → Shared → Prop} {s : Shared} {tg : Expr} {it : Addr} {u : Value} {o : Obj} {n : String} {vs : Array Value} {Q : Unit → Shared → Prop} (ho : s.heap.get? it = some o) (hc : o.cls = .type n) (hd : o.data = .fields vs)
    (hn : ["enumerate", "zip", "dict_itemiterator", "dict_reverseitemiterator", "odict_iterator", "itertools.zip_longest", "itertools.pairwise"].contains n = false) (hQ : Q () s) : wpAny M A (letOwnedTupleGo tg (.ref it) u) Q E s := by
  unfold letOwnedTupleGo
  cases tg <;> first
    | exact wpAny_pure hQ
    | (cases u <;> first
        | exact wpAny_pure hQ
        | (refine wpAny_bind (wpAny_load ho ?_)
           rw [hc, hd]
           show wpAny M A (if (["enumerate", "zip", "dict_itemiterator", "dict_reverseitemiterator", "odict_iterator", "itertools.zip_longest", "itertools.pairwise"].contains n && vs[0]? == some (rawInt _)) = true then _ else _) Q E s
           rw [if_neg (by intro h; rw [hn, Bool.false_and] at h; cases h)]
           exact wpAny_pure hQ))

def Itl (K : PySem.W.Frag) (a : Addr) : It :=
  ⟨fun i H => ∃ xs x, SqL K H a xs ∧ xs[i]? = some x, fun i H x H' => H' = H ∧ ∀ xs, SqL K H a xs → xs[i]? = some x, fun i H => ∃ xs, SqL K H a xs ∧ xs.length ≤ i⟩
def Itt (K : PySem.W.Frag) (a : Addr) : It :=
  ⟨fun i H => ∃ xs x, SqT K H a xs ∧ xs[i]? = some x, fun i H x H' => H' = H ∧ ∀ xs, SqT K H a xs → xs[i]? = some x, fun i H => ∃ xs, SqT K H a xs ∧ xs.length ≤ i⟩
def Itr (lo : Int) (n : Nat) : It := ⟨fun i _ => i < n, fun i H x H' => H' = H ∧ x = .int (lo + i), fun i _ => n ≤ i⟩
theorem turn_list {P : Program} {w : World} {K : PySem.W.Frag} {tg : Expr} (a it : Addr) : Turn P w K tg (Itl K a) [it] it (fun i h => h.IsListIter it a i) where
  mem := by simp
  obj := fun i h st b hb => by
    have e : b = it := by simpa using hb
    subst e
    obtain ⟨o, e, c, d⟩ := st
    exact ⟨o, e, fun v z => by rw [d] at z; cases z⟩
  keep := fun i h h' st k => st.at fun o e => k it (by simp) o e
  item := by
    intro X hP hw hK hc i pins s σ H E I hf st hg
    subst hP hw hK
    obtain ⟨xs, x, hq, hx⟩ := hg
    obtain ⟨its, rv, p, hz⟩ := I.list hq
    obtain ⟨u, hu, ru⟩ := rv.get hx
    obtain ⟨f0, f1, f2, f3, f4, f5⟩ := hf it (by simp)
    refine wpAny_pyNext_list_item st p.isList (x := u) (by simpa using hu) fun h' st' sb => ?_
    have I1 : Inv X pins σ H { s with heap := h' } := I.turned (t' := s.toks) (fun b o hb e => (sb.2 b hb).trans e) f0 f1 f3 f4 f5
    obtain ⟨o, e, c, d⟩ := id st'
    exact ⟨u, rfl, go_of (s := { s with heap := h' }) e c d (by decide) ⟨x, H, I1, ru, ⟨rfl, fun ys hy => by rw [I.list_inj hy hq]; exact hx⟩, st', fun b hb => (hf b hb).1⟩⟩
  done := by
    intro X hP hw hK hc i pins s σ H E I hf st hg
    subst hP hw hK
    obtain ⟨xs, hq, hx⟩ := hg
    obtain ⟨its, rv, p, hz⟩ := I.list hq
    obtain ⟨f0, f1, f2, f3, f4, f5⟩ := hf it (by simp)
    have hl := rv.length
    exact wpAny_pyNext_list_end (I.ok.hd hc) st p.isList (by simp; omega) fun h' eb => ⟨rfl, I.turned (t' := s.toks) (fun b o hb e => eb b o hb e) f0 f1 f3 f4 f5⟩
  self := fun _ _ _ _ _ st h => wpAny_pyIter_listiter st h
theorem turn_tuple {P : Program} {w : World} {K : PySem.W.Frag} {tg : Expr} (a it : Addr) : Turn P w K tg (Itt K a) [it] it (fun i h => h.IsTupleIter it a i) where
  mem := by simp
  obj := fun i h st b hb => by
    have e : b = it := by simpa using hb
    subst e
    obtain ⟨o, e, c, d⟩ := st
    exact ⟨o, e, fun v z => by rw [d] at z; cases z⟩
  keep := fun i h h' st k => st.at fun o e => k it (by simp) o e
  item := by
    intro X hP hw hK hc i pins s σ H E I hf st hg
    subst hP hw hK
    obtain ⟨xs, x, hq, hx⟩ := hg
    obtain ⟨its, rv, p, hz⟩ := I.tuple hq
    obtain ⟨u, hu, ru⟩ := rv.get hx
    obtain ⟨f0, f1, f2, f3, f4, f5⟩ := hf it (by simp)
    refine wpAny_pyNext_tuple_item st (show s.heap.IsTuple a its.toArray from p) (x := u) (by simpa using hu) fun h' st' sb => ?_
    have I1 : Inv X pins σ H { s with heap := h' } := I.turned (t' := s.toks) (fun b o hb e => (sb.2 b hb).trans e) f0 f1 f3 f4 f5
    obtain ⟨o, e, c, d⟩ := id st'
    exact ⟨u, rfl, go_of (s := { s with heap := h' }) e c d (by decide) ⟨x, H, I1, ru, ⟨rfl, fun ys hy => by rw [I.tuple_inj hy hq]; exact hx⟩, st', fun b hb => (hf b hb).1⟩⟩
  done := by
    intro X hP hw hK hc i pins s σ H E I hf st hg
    subst hP hw hK
    obtain ⟨xs, hq, hx⟩ := hg
    obtain ⟨its, rv, p, hz⟩ := I.tuple hq
    obtain ⟨f0, f1, f2, f3, f4, f5⟩ := hf it (by simp)
    have hl := rv.length
    exact wpAny_pyNext_tuple_end (I.ok.hd hc) st (show s.heap.IsTuple a its.toArray from p) (by simp; omega) fun h' eb => ⟨rfl, I.turned (t' := s.toks) (fun b o hb e => eb b o hb e) f0 f1 f3 f4 f5⟩
  self := fun _ _ _ _ _ st h => wpAny_pyIter_tupleiter st h
theorem turn_range {P : Program} {w : World} {K : PySem.W.Frag} {tg : Expr} (it : Addr) (lo : Int) (n : Nat) : Turn P w K tg (Itr lo n) [it] it (fun i h => IsRangeIter h it (lo + (i : Nat) * 1) ((n : Int) - (i : Nat)) 1) where
  mem := by simp
  obj := fun i h st b hb => by
    have e : b = it := by simpa using hb
    subst e
    exact ⟨_, st, fun v z => by
      have z' : Data.fields _ = Data.cell v := z
      cases z'⟩
  keep := fun i h h' st k => k it (by simp) _ st
  item := by
    intro X hP hw hK hc i pins s σ H E I hf st hg
    subst hP hw hK
    obtain ⟨f0, f1, f2, f3, f4, f5⟩ := hf it (by simp)
    have W := Walks.range (prog := X.prog) (w := X.w) (I.ok.hd hc) it lo 1 n
    refine W.item i s _ _ hg st fun v h' tk hv st' kk => ?_
    obtain ⟨t, rfl⟩ := hv
    have I1 : Inv X pins σ H { s with heap := h', toks := tk } := I.turned (fun b o hb e => kk b o (by simpa using hb) e) f0 f1 f3 f4 f5
    refine ⟨_, rfl, go_of (s := { s with heap := h', toks := tk }) (n := "range_iterator") st' rfl rfl (by decide) ⟨.int (lo + i), H, I1, ⟨t, ?_⟩, ⟨rfl, rfl⟩, st', fun b hb => (hf b hb).1⟩⟩
    rw [Int.mul_one]
  done := by
    intro X hP hw hK hc i pins s σ H E I hf st hg
    subst hP hw hK
    obtain ⟨f0, f1, f2, f3, f4, f5⟩ := hf it (by simp)
    exact wpAny_pyNext_range_end (I.ok.hd hc) st (by have : n ≤ i := hg; omega) fun h' eb => ⟨rfl, I.turned (t' := s.toks) (fun b o hb e => eb b o hb e) f0 f1 f3 f4 f5⟩
  self := fun _ _ _ _ _ st h => wpAny_pyIter_rangeiter st h
end L2

namespace L2
open PySem PySem.Spec PyProof.Rows
section
variable {X : Cx} {tg : Expr}
def iList (K : PySem.W.Frag) (tl : TE) : TI := fun σ H R => tl σ H fun x H1 => ∃ a, x = .ref a ∧ (∃ xs, SqL K H1 a xs) ∧ R (Itl K a) H1
def iTup (K : PySem.W.Frag) (tl : TE) : TI := fun σ H R => tl σ H fun x H1 => ∃ a, x = .ref a ∧ (∃ xs, SqT K H1 a xs) ∧ R (Itt K a) H1
theorem pi_list {l : Expr} {tl : TE} (hl : PE X l tl) : PI X tg l (iList X.K tl) := by
  intro pins s σ H R I h
  refine thn (hl pins s σ H _ I h) fun v s1 zq => zq.elim fun x H1 I1 r1 q1 => ?_
  obtain ⟨a, e, ⟨xs, hq⟩, q⟩ := q1
  subst e
  cases r1
  obtain ⟨its, rv, p, hz⟩ := I1.list hq
  refine wpAny_pyIter_list p.isList ?_
  refine ⟨s1.heap.objs.size, [s1.heap.objs.size], _, _, H1, rfl, I1.kept (t' := s1.toks) fun b o e => Heap.get?_push_of_some _ e, turn_list a _, ⟨_, Heap.get?_push_size _ rfl, rfl, rfl⟩, fun b hb => ?_, q⟩
  have e : b = s1.heap.objs.size := by simpa using hb
  subst e
  exact I1.fpOk (Nat.le_refl _) (I1.hok.fresh (Nat.le_refl _))
theorem pi_tup {l : Expr} {tl : TE} (hl : PE X l tl) : PI X tg l (iTup X.K tl) := by
  intro pins s σ H R I h
  refine thn (hl pins s σ H _ I h) fun v s1 zq => zq.elim fun x H1 I1 r1 q1 => ?_
  obtain ⟨a, e, ⟨xs, hq⟩, q⟩ := q1
  subst e
  cases r1
  obtain ⟨its, rv, p, hz⟩ := I1.tuple hq
  refine wpAny_pyIter_tuple (show s1.heap.IsTuple a its.toArray from p) ?_
  refine ⟨s1.heap.objs.size, [s1.heap.objs.size], _, _, H1, rfl, I1.kept (t' := s1.toks) fun b o e => Heap.get?_push_of_some _ e, turn_tuple a _, ⟨_, Heap.get?_push_size _ rfl, rfl, rfl⟩, fun b hb => ?_, q⟩
  have e : b = s1.heap.objs.size := by simpa using hb
  subst e
  exact I1.fpOk (Nat.le_refl _) (I1.hok.fresh (Nat.le_refl _))
theorem range_it {pins : List (Addr × Obj)} {σ : St} {H : Hp} {s : Shared} {R : It → Hp → Prop} {E : Value → Shared → Prop} {lo hi : Int} {t u v : Tok} {tk : Nat} (I : Inv X pins σ H s) (h1 : -(2 ^ 62) ≤ lo) (h2 : lo < 2 ^ 62) (h3 : -(2 ^ 62) ≤ hi) (h4 : hi < 2 ^ 62)
    (q : R (Itr lo (hi - lo).toNat) H) : wpAny (model X.prog X.w) X.A (pyIter (.ref s.heap.objs.size)) (PIE X pins σ tg R) E { s with heap := s.heap.push { cls := .type "range", data := .fields #[.int lo t, .int hi u, .int 1 v] }, toks := tk } := by
  refine wpAny_pyIter_range (IsRange.new ..) (small_one h1 h2 h3 h4) ?_
  have I1 : Inv X pins σ H { s with heap := s.heap.push { cls := .type "range", data := .fields #[.int lo t, .int hi u, .int 1 v] }, toks := tk } := I.kept fun b o e => Heap.get?_push_of_some _ e
  refine ⟨(s.heap.push { cls := .type "range", data := .fields #[.int lo t, .int hi u, .int 1 v] }).objs.size, [(s.heap.push { cls := .type "range", data := .fields #[.int lo t, .int hi u, .int 1 v] }).objs.size], _, _, H, rfl,
    I1.kept (t' := tk) fun b o e => Heap.get?_push_of_some _ e, turn_range _ lo (hi - lo).toNat, ?_, fun b hb => ?_, q⟩
  · have e1 : lo + ((0 : Nat) : Int) * 1 = lo := by simp
    have e2 : (((hi - lo).toNat : Nat) : Int) - ((0 : Nat) : Int) = Builtin.Range.rangeSize lo hi 1 := by rw [rangeSize_one]; split <;> omega
    show IsRangeIter _ _ (lo + ((0 : Nat) : Int) * 1) ((((hi - lo).toNat : Nat) : Int) - ((0 : Nat) : Int)) 1
    rw [e1, e2]
    exact Heap.get?_push_size _ rfl
  · have e : b = (s.heap.push { cls := .type "range", data := .fields #[.int lo t, .int hi u, .int 1 v] }).objs.size := by simpa using hb
    subst e
    exact I1.fpOk (Nat.le_refl _) (I1.hok.fresh (Nat.le_refl _))
def iRng1 (ta : TA) : TI := fun σ H R => ta σ H fun vs H1 => ∃ j : Int, vs = [.int j] ∧ -(2 ^ 62) ≤ j ∧ j < 2 ^ 62 ∧ R (Itr 0 j.toNat) H1
theorem pi_range1 {a : Expr} {ta : TA} {p pos : Pos} (hg : Gl X "range") (hm : X.mg "range" = none) (ha : PA X [a] ta) (hs : starEach [a] X.env = [(false, eval a X.env)] := by rfl) : PI X tg (.Call (.Name "range" p) [a] [] pos) (iRng1 ta) := by
  intro pins s σ H R I h
  refine Call_ (ld_blt I hg hm boot_range (PyProof.Rows.callWith_type1 (thn (ha pos pins s σ H _ I h) fun us s1 zq => zq.elim fun vs H1 I1 r1 q1 => ?_) hs rfl))
  obtain ⟨j, e, q1, q2, q⟩ := q1
  subst e
  cases r1 with
  | cons r rr =>
    cases rr
    obtain ⟨t, rfl⟩ := r
    exact call_range_1 (range_it I1 (by omega) (by omega) q1 q2 (by simpa using q))
def tFor (wi : TI) (g : TG) (tb : TS) : TS := fun D σ H => wi σ H fun J H1 => ∃ W : Nat → Nat → St → Hp → Prop, (∃ m, W 0 m σ H1) ∧ ∀ i m σ H, W i m σ H →
  (J.stop i H ∧ D.nx σ H) ∨ (J.go i H ∧ ∃ N : St → Hp → Prop, (∀ σ' H', N σ' H' → ∃ m', m' < m ∧ W (i + 1) m' σ' H') ∧ ∀ x H', J.yld i H x H' → g x σ H' fun σ2 H2 => tb { D with nx := N, ct := N, bk := D.nx } σ2 H2)
def pinsAt (fp : List Addr) (h : Heap) : List (Addr × Obj) := fp.filterMap fun b => (h.get? b).map fun o => (b, o)
theorem mem_pinsAt {fp : List Addr} {h : Heap} {b : Addr} {o : Obj} (hb : b ∈ fp) (e : h.get? b = some o) : (b, o) ∈ pinsAt fp h := List.mem_filterMap.mpr ⟨b, hb, by rw [e]; rfl⟩
theorem of_pinsAt {fp : List Addr} {h : Heap} {p : Addr × Obj} (hp : p ∈ pinsAt fp h) : p.1 ∈ fp ∧ h.get? p.1 = some p.2 := by
  obtain ⟨b, hb, e⟩ := List.mem_filterMap.mp hp
  cases q : h.get? b with
  | none => rw [q] at e; cases e
  | some o =>
    rw [q] at e
    have e' : (b, o) = p := Option.some.inj e
    subst e'
    exact ⟨hb, q⟩
theorem Inv.pinned {pins : List (Addr × Obj)} {σ : St} {H : Hp} {s : Shared} {fp : List Addr} (I : Inv X pins σ H s) (hf : ∀ b ∈ fp, FpOk X pins H b) (ho : ∀ b ∈ fp, ∃ o, s.heap.get? b = some o ∧ ∀ v, o.data ≠ .cell v) : Inv X (pins ++ pinsAt fp s.heap) σ H s :=
  I.pins_of fun p hp => (List.mem_append.mp hp).elim (fun z => I.pin p (List.mem_append_right _ z)) fun z => by
    obtain ⟨hb, e⟩ := of_pinsAt z
    obtain ⟨f0, f1, f2, _⟩ := hf p.1 hb
    obtain ⟨o, e', d⟩ := ho p.1 hb
    rw [e] at e'; cases e'
    exact ⟨e, f0, f1, f2, d⟩
theorem Inv.unpinned {pins pl : List (Addr × Obj)} {σ : St} {H : Hp} {s : Shared} (I : Inv X (pins ++ pl) σ H s) : Inv X pins σ H s := I.pins_of fun p hp => I.pin p (List.mem_append_right _ (List.mem_append_left _ hp))
theorem ps_for {iter : Expr} {body : List Stmt} {wi : TI} {g : TG} {tb : TS} {pos : Pos} (hp : PassesOwn (model X.prog X.w) X.A X.env X.xe) (hc : X.calm = true) (hi : PI X tg iter wi) (hg : PG X tg g) (hb : PSs X body tb)
    (hs : ∀ x, foldedSetIterable iter X.env x = pure x := by intro _; rfl) : PS X (.For tg iter body [] pos) (tFor wi g tb) := by
  intro pins s σ H D I h
  refine wpAny_For (thn (hi pins s σ H _ I h) fun v s1 h1 => thn h1 fun itv s2 h2 => ?_) hs
  obtain ⟨it, fp, tn, J, H2, e, I2, T, st2, f2, W, ⟨m0, w0⟩, turn⟩ := h2
  subst e
  have stat : ∀ {H' : Hp}, (∀ b ∈ fp, H' b = none) → ∀ b ∈ fp, FpOk X pins H' b := fun hn b hb => ⟨hn b hb, (f2 b hb).2⟩
  refine codeAny_forLoop_any (fun n s' => ∃ i σ' H', Inv X pins σ' H' s' ∧ tn i s'.heap ∧ (∀ b ∈ fp, H' b = none) ∧ W i n σ' H') ?_ m0 ⟨0, σ, H2, I2, st2, fun b hb => (f2 b hb).1, w0⟩
  rintro n s3 ⟨i, σ3, H3, I3, st3, fr3, w3⟩
  rcases turn i n σ3 H3 w3 with ⟨stop, qn⟩ | ⟨go, N, hN, step⟩
  · refine wpAny_passesOwn hp (thn (T.done X rfl rfl rfl hc i pins s3 σ3 H3 X.xe I3 (stat fr3) st3 stop) fun r s4 ⟨hr, I4⟩ => ?_)
    subst hr
    exact wpAny_execs_nil ⟨σ3, H3, I4, qn⟩
  · refine wpAny_passesOwn hp (thn (T.item X rfl rfl rfl hc i pins s3 σ3 H3 X.xe I3 (stat fr3) st3 go) fun r s4 ⟨u, hr, h4⟩ => ?_)
    subst hr
    refine wpAny_passesOwn hp (thn h4 fun _ s5 ⟨x, H5, I5, r5, y5, st5, fr5⟩ => ?_)
    have I5' := I5.pinned (stat fr5) (T.obj _ _ st5)
    refine wpAny_passesOwn hp (thn (hg _ s5 σ3 H5 x u _ I5' r5 (step x H5 y5)) fun _ s6 ⟨σ6, H6, I6, q6⟩ => ?_)
    refine wpAny_passesOwn hp (thn (hb _ s6 σ6 H6 _ I6 q6) fun f s7 q7 => ?_)
    have again : ∀ {σ7 : St} {H7 : Hp}, Inv X (pins ++ pinsAt fp s5.heap) σ7 H7 s7 → N σ7 H7 → ∃ m, m < n ∧ ∃ i σ' H', Inv X pins σ' H' s7 ∧ tn i s7.heap ∧ (∀ b ∈ fp, H' b = none) ∧ W i m σ' H' := fun {σ7 H7} I7 n7 => by
      obtain ⟨m', hm, w7⟩ := hN σ7 H7 n7
      refine ⟨m', hm, i + 1, σ7, H7, I7.unpinned, T.keep _ _ _ st5 fun b hb o e => (I7.pin (b, o) (List.mem_append_right _ (List.mem_append_right _ (mem_pinsAt hb e)))).1, fun b hb => ?_, w7⟩
      obtain ⟨o, e, d⟩ := T.obj _ _ st5 b hb
      exact (I7.pin (b, o) (List.mem_append_right _ (List.mem_append_right _ (mem_pinsAt hb e)))).2.1
    cases f with
    | next => obtain ⟨σ7, H7, I7, n7⟩ := q7; exact again I7 n7
    | cont => obtain ⟨σ7, H7, I7, n7⟩ := q7; exact again I7 n7
    | brk => obtain ⟨σ7, H7, I7, q7⟩ := q7; exact ⟨σ7, H7, I7.unpinned, q7⟩
    | ret v => obtain ⟨x7, σ7, H7, I7, r7, q7⟩ := q7; exact ⟨x7, σ7, H7, I7.unpinned, r7, q7⟩
end

theorem for_list {K : PySem.W.Frag} {a : Addr} {xs : List V} {g : TG} {tb : TS} {D : Ends} {σ : St} {H : Hp} (Pv : Nat → St → Hp → Prop) (h0 : Pv 0 σ H) (hl : ∀ i σ H, i ≤ xs.length → Pv i σ H → SqL K H a xs)
    (hs : ∀ i x σ H, xs[i]? = some x → Pv i σ H → g x σ H fun σ2 H2 => tb { D with nx := Pv (i + 1), ct := Pv (i + 1), bk := D.nx } σ2 H2) (hd : ∀ σ H, Pv xs.length σ H → D.nx σ H) :
    ∃ W : Nat → Nat → St → Hp → Prop, (∃ m, W 0 m σ H) ∧ ∀ i m σ H, W i m σ H →
      ((Itl K a).stop i H ∧ D.nx σ H) ∨ ((Itl K a).go i H ∧ ∃ N : St → Hp → Prop, (∀ σ' H', N σ' H' → ∃ m', m' < m ∧ W (i + 1) m' σ' H') ∧ ∀ x H', (Itl K a).yld i H x H' → g x σ H' fun σ2 H2 => tb { D with nx := N, ct := N, bk := D.nx } σ2 H2) := by
  refine ⟨fun i m σ H => m = xs.length - i ∧ i ≤ xs.length ∧ Pv i σ H, ⟨xs.length, by simp, Nat.zero_le _, h0⟩, ?_⟩
  rintro i m σ H ⟨rfl, hi, p⟩
  have q := hl i σ H hi p
  by_cases hlt : i < xs.length
  · refine .inr ⟨⟨xs, xs[i], q, by simp [hlt]⟩, Pv (i + 1), fun σ' H' p' => ⟨xs.length - (i + 1), by omega, rfl, hlt, p'⟩, fun x H' y => ?_⟩
    obtain ⟨e, y⟩ := y
    subst e
    exact hs i x σ _ (y xs q) p
  · have e : i = xs.length := by omega
    subst e
    exact .inl ⟨⟨xs, q, Nat.le_refl _⟩, hd σ H p⟩
theorem for_range {lo : Int} {n : Nat} {g : TG} {tb : TS} {D : Ends} {σ : St} {H : Hp} (Pv : Nat → St → Hp → Prop) (h0 : Pv 0 σ H)
    (hs : ∀ i σ H, i < n → Pv i σ H → g (.int (lo + i)) σ H fun σ2 H2 => tb { D with nx := Pv (i + 1), ct := Pv (i + 1), bk := D.nx } σ2 H2) (hd : ∀ σ H, Pv n σ H → D.nx σ H) :
    ∃ W : Nat → Nat → St → Hp → Prop, (∃ m, W 0 m σ H) ∧ ∀ i m σ H, W i m σ H →
      ((Itr lo n).stop i H ∧ D.nx σ H) ∨ ((Itr lo n).go i H ∧ ∃ N : St → Hp → Prop, (∀ σ' H', N σ' H' → ∃ m', m' < m ∧ W (i + 1) m' σ' H') ∧ ∀ x H', (Itr lo n).yld i H x H' → g x σ H' fun σ2 H2 => tb { D with nx := N, ct := N, bk := D.nx } σ2 H2) := by
  refine ⟨fun i m σ H => m = n - i ∧ i ≤ n ∧ Pv i σ H, ⟨n, by simp, Nat.zero_le _, h0⟩, ?_⟩
  rintro i m σ H ⟨rfl, hi, p⟩
  by_cases hlt : i < n
  · refine .inr ⟨hlt, Pv (i + 1), fun σ' H' p' => ⟨n - (i + 1), by omega, rfl, hlt, p'⟩, fun x H' y => ?_⟩
    obtain ⟨e, y⟩ := y
    subst e y
    exact hs i σ _ hlt p
  · have e : i = n := by omega
    subst e
    exact .inl ⟨Nat.le_refl _, hd σ H p⟩
end L2

namespace L2
open PySem PySem.Spec PyProof.Rows

abbrev R2 := V → V → Hp → VK → Prop
def OpR (X : Cx) (f : Value → Value → Sem Value) (r : R2) : Prop :=
  ∀ (pins : List (Addr × Obj)) (s : Shared) (σ : St) (H : Hp) (x y : V) (v u : Value) (Q : VK), Inv X pins σ H s → RelV x v → RelV y u → r x y H Q →
    wpAny (model X.prog X.w) X.A (f v u) (EP X pins σ Q) X.xe s
def UnR (X : Cx) (f : Value → Sem Value) (r : V → Hp → VK → Prop) : Prop :=
  ∀ (pins : List (Addr × Obj)) (s : Shared) (σ : St) (H : Hp) (x : V) (v : Value) (Q : VK), Inv X pins σ H s → RelV x v → r x H Q →
    wpAny (model X.prog X.w) X.A (f v) (EP X pins σ Q) X.xe s
def CallR (X : Cx) (f : Value) (r : List V → Hp → VK → Prop) : Prop :=
  ∀ (pins : List (Addr × Obj)) (s : Shared) (σ : St) (H : Hp) (xs : List V) (us : List Value) (Q : VK), Inv X pins σ H s → Vals xs us → r xs H Q →
    wpAny (model X.prog X.w) X.A (call f us) (EP X pins σ Q) X.xe s
def TruR (X : Cx) (r : V → Hp → (Bool → Hp → Prop) → Prop) : Prop :=
  ∀ (pins : List (Addr × Obj)) (s : Shared) (σ : St) (H : Hp) (x : V) (v : Value) (Q : Bool → Hp → Prop), Inv X pins σ H s → RelV x v → r x H Q →
    wpAny (model X.prog X.w) X.A (truthy v) (TP X pins σ Q) X.xe s

def tOp (r : R2) (ta tb : TE) : TE := fun σ H Q => ta σ H fun x H1 => tb σ H1 fun y H2 => r x y H2 Q
def tUn (r : V → Hp → VK → Prop) (ta : TE) : TE := fun σ H Q => ta σ H fun x H1 => r x H1 Q
inductive rII (C : Int → Int → Prop) (g : Int → Int → V) (x : V) (y : V) (H : Hp) (Q : VK) : Prop
  | mk (i : _) (j : _) (x0 : x = .int i) (x1 : y = .int j) (x2 : C i j) (x3 : Q (g i j) H) : rII C g x y H Q
def rI (C : Int → Int → Prop) (g : Int → Int → V) : R2 := fun x y H Q => rII C g x y H Q
inductive rI0I (g : Int → Int → V) (x : V) (y : V) (H : Hp) (Q : VK) : Prop
  | mk (i : _) (j : _) (x0 : x = .int i) (x1 : y = .int j) (x2 : Q (g i j) H) : rI0I g x y H Q
def rI0 (g : Int → Int → V) : R2 := fun x y H Q => rI0I g x y H Q
inductive rUI (g : Int → V) (x : V) (H : Hp) (Q : VK) : Prop
  | mk (i : _) (x0 : x = .int i) (x1 : Q (g i) H) : rUI g x H Q
def rU (g : Int → V) : V → Hp → VK → Prop := fun x H Q => rUI g x H Q

section
variable {X : Cx} {a b c : Expr} {ta tb tc : TE} {pos : Pos}

theorem binT (ha : PE X a ta) (hb : PE X b tb) {pins : List (Addr × Obj)} {s : Shared} {σ : St} {H : Hp} {R : V → V → Hp → Prop} (I : Inv X pins σ H s)
    (h : ta σ H fun x H1 => tb σ H1 fun y H2 => R x y H2) {Q : Value → Shared → Prop} {f : Value → Value → Sem Value}
    (hf : ∀ v u s2 x y H2, Inv X pins σ H2 s2 → RelV x v → RelV y u → R x y H2 → wpAny (model X.prog X.w) X.A (f v u) Q X.xe s2) :
    wpAny (model X.prog X.w) X.A (eval a X.env) (fun v s₁ => wpAny (model X.prog X.w) X.A (eval b X.env) (fun u s₂ => wpAny (model X.prog X.w) X.A (f v u) Q X.xe s₂) X.xe s₁) X.xe s := by
  refine thn (ha pins s σ H _ I h) fun v s1 zq => zq.elim fun x H1 I1 r1 q1 => ?_
  refine thn (hb pins s1 σ H1 _ I1 q1) fun u s2 zq => zq.elim fun y H2 I2 r2 q2 => ?_
  exact hf v u s2 x y H2 I2 r1 r2 q2

theorem pe_op {op : Operator} {r : R2} (ho : OpR X (binaryOp op) r) (ha : PE X a ta) (hb : PE X b tb) : PE X (.BinOp a op b pos) (tOp r ta tb) := by
  intro pins s σ H Q I h
  exact wpAny_BinOp (binT ha hb I h fun v u s2 x y H2 I2 rx ry q => ho pins s2 σ H2 x y v u Q I2 rx ry q)
theorem pe_un {op : UnaryOp} {r : V → Hp → VK → Prop} (ho : UnR X (unaryOp op) r) (ha : PE X a ta) : PE X (.UnaryOp op a pos) (tUn r ta) := by
  intro pins s σ H Q I h
  exact UnaryOp_ (thn (ha pins s σ H _ I h) fun v s1 zq => zq.elim fun x H1 I1 r1 q1 => ho pins s1 σ H1 x v Q I1 r1 q1)
theorem opI {f : Value → Value → Sem Value} {C : Int → Int → Prop} {g : Int → Int → Int}
    (rule : ∀ (i j : Int) (t u : Tok) (s : Shared) (Q : Value → Shared → Prop) (E : Value → Shared → Prop), C i j → Q (.int (g i j) s.toks) { s with toks := s.toks + 1 } → wpAny (model X.prog X.w) X.A (f (.int i t) (.int j u)) Q E s) :
    OpR X f (rI C fun i j => .int (g i j)) := by
  intro pins s σ H x y v u Q I rx ry h
  obtain ⟨i, j, rfl, rfl, hc, q⟩ := h
  obtain ⟨t, rfl⟩ := rx
  obtain ⟨t', rfl⟩ := ry
  exact rule i j t t' s _ _ hc ⟨.int (g i j), H, I.tok _, ⟨_, rfl⟩, q⟩
theorem opI0 {f : Value → Value → Sem Value} {g : Int → Int → Int}
    (rule : ∀ (i j : Int) (t u : Tok) (s : Shared) (Q : Value → Shared → Prop) (E : Value → Shared → Prop), Q (.int (g i j) s.toks) { s with toks := s.toks + 1 } → wpAny (model X.prog X.w) X.A (f (.int i t) (.int j u)) Q E s) :
    OpR X f (rI0 fun i j => .int (g i j)) := by
  intro pins s σ H x y v u Q I rx ry h
  obtain ⟨i, j, rfl, rfl, q⟩ := h
  obtain ⟨t, rfl⟩ := rx
  obtain ⟨t', rfl⟩ := ry
  exact rule i j t t' s _ _ ⟨.int (g i j), H, I.tok _, ⟨_, rfl⟩, q⟩
theorem opB0 {f : Value → Value → Sem Value} {g : Int → Int → Bool}
    (rule : ∀ (i j : Int) (t u : Tok) (s : Shared) (Q : Value → Shared → Prop) (E : Value → Shared → Prop), Q (.bool (g i j)) s → wpAny (model X.prog X.w) X.A (f (.int i t) (.int j u)) Q E s) :
    OpR X f (rI0 fun i j => .bl (g i j)) := by
  intro pins s σ H x y v u Q I rx ry h
  obtain ⟨i, j, rfl, rfl, q⟩ := h
  obtain ⟨t, rfl⟩ := rx
  obtain ⟨t', rfl⟩ := ry
  exact rule i j t t' s _ _ ⟨.bl (g i j), H, I, rfl, q⟩

def CDiv (i j : Int) : Prop := 0 < j ∧ j < 1073741824
def CPow (i j : Int) : Prop := 0 ≤ j ∧ j ≤ 1000000 ∧ i.natAbs < 2 ^ 64
def CMul (i j : Int) : Prop := (-(2 ^ 64) < i ∧ i < 2 ^ 64) ∨ (-(2 ^ 64) < j ∧ j < 2 ^ 64)
theorem CMul.ok {i j : Int} (h : CMul i j) : IntMulOk i j := by
  rcases h with ⟨h1, h2⟩ | ⟨h1, h2⟩
  · exact .of_left (intBits_le_64 h1 h2)
  · exact .of_right (intBits_le_64 h1 h2)
theorem op_add : OpR X (binaryOp .Add) (rI0 fun i j => .int (i + j)) := opI0 fun _ _ _ _ _ _ _ q => add_int q
theorem op_sub : OpR X (binaryOp .Sub) (rI0 fun i j => .int (i - j)) := opI0 fun _ _ _ _ _ _ _ q => sub_int q
theorem op_mul : OpR X (binaryOp .Mult) (rI CMul fun i j => .int (i * j)) := opI fun _ _ _ _ _ _ _ hc q => mul_int q hc.ok
theorem op_fdiv : OpR X (binaryOp .FloorDiv) (rI CDiv fun i j => .int (i / j)) := opI fun i j _ _ _ _ _ hc q => by
  have h1 : (0 : Int) < j := hc.1
  have h2 : j < 1073741824 := hc.2
  exact floordiv_int (by omega) (by rw [Int.fdiv_eq_ediv_of_nonneg i (by omega)]; exact q) (.inl (PyProof.noPylong_small (by omega)))
theorem op_mod : OpR X (binaryOp .Mod) (rI (fun _ j => 0 < j) fun i j => .int (i % j)) := opI fun i j _ _ _ _ _ hc q => by
  have h1 : (0 : Int) < j := hc
  exact mod_int' (by omega) (by rw [Int.fmod_eq_emod_of_nonneg i (by omega)]; exact q)
theorem op_pow : OpR X (binaryOp .Pow) (rI CPow fun i j => .int (i ^ j.toNat)) := opI fun _ _ _ _ _ _ _ hc q => pow_int_small hc.1 hc.2.1 hc.2.2 q
theorem unI {f : Value → Sem Value} {g : Int → Int}
    (rule : ∀ (i : Int) (t : Tok) (s : Shared) (Q : Value → Shared → Prop) (E : Value → Shared → Prop), Q (.int (g i) s.toks) { s with toks := s.toks + 1 } → wpAny (model X.prog X.w) X.A (f (.int i t)) Q E s) :
    UnR X f (rU fun i => .int (g i)) := by
  intro pins s σ H x v Q I rx h
  obtain ⟨i, rfl, q⟩ := h
  obtain ⟨t, rfl⟩ := rx
  exact rule i t s _ _ ⟨.int (g i), H, I.tok _, ⟨_, rfl⟩, q⟩
theorem un_neg : UnR X (unaryOp .USub) (rU fun i => .int (-i)) := unI fun _ _ _ _ _ q => neg_int q
inductive r_op_add_ibI (x : V) (y : V) (H : Hp) (Q : VK) : Prop
  | mk (i : _) (k : _) (h0_ : x = .int i) (h1_ : y = .bl k) (h2_ : Q (.int (i + b2i k)) H) : r_op_add_ibI x y H Q
end

def scal : V → V → Bool
  | .non, .non => true | .non, .int _ => true | .int _, .non => true | .non, .bl _ => true | .bl _, .non => true | .non, .str _ => true | .str _, .non => true
  | .int _, .int _ => true | .bl _, .bl _ => true | .str _, .str _ => true | .byt _, .byt _ => true
  | .int _, .str _ => true | .str _, .int _ => true | .bl _, .str _ => true | .str _, .bl _ => true
  | _, _ => false
def rEq : R2 := fun x y H Q => scal x y = true ∧ Q (.bl (decide (x = y))) H
def rNe : R2 := fun x y H Q => scal x y = true ∧ Q (.bl (!decide (x = y))) H

theorem dec_int {i j : Int} : decide (V.int i = V.int j) = (i == j) := by
  rw [Bool.eq_iff_iff]
  simp
theorem dec_bl {i j : Bool} : decide (V.bl i = V.bl j) = (i == j) := by
  rw [Bool.eq_iff_iff]
  simp
theorem dec_str {i j : Str} : decide (V.str i = V.str j) = (i == j) := by
  rw [Bool.eq_iff_iff]
  simp
theorem dec_byt {i j : Array UInt8} : decide (V.byt i = V.byt j) = (i.toList == j.toList) := by
  rw [Bool.eq_iff_iff]
  cases i
  cases j
  simp

section
variable {X : Cx} {a b c : Expr} {ta tb tc : TE} {pos : Pos}
theorem fin_bl {pins : List (Addr × Obj)} {σ : St} {H : Hp} {s : Shared} {Q : VK} {k k' : Bool} (I : Inv X pins σ H s) (q : Q (.bl k) H) (e : k = k') : EP X pins σ Q (.bool k') s := by
  subst e
  exact ⟨.bl k, H, I, rfl, q⟩
theorem op_eq : OpR X (compareOp .Eq) rEq := by
  intro pins s σ H x y v u Q I rx ry h
  obtain ⟨hs, q⟩ := h
  cases x with
  | non =>
    cases rx
    cases y with
    | non => cases ry; exact PySem.EqNone.eq_none_none (fin_bl I q (by simp))
    | bl j => cases ry; exact PySem.EqNone.eq_none_bool (fin_bl I q (by simp))
    | int j => obtain ⟨t', rfl⟩ := ry; exact PySem.EqNone.eq_none_int (fin_bl I q (by simp))
    | str j => obtain ⟨t', rfl⟩ := ry; exact PySem.EqNone.eq_none_str (fin_bl I q (by simp))
    | _ => exact absurd (show false = true from hs) Bool.false_ne_true
  | bl i =>
    cases rx
    cases y with
    | non => cases ry; exact PySem.EqNone.eq_bool_none (fin_bl I q (by simp))
    | bl j => cases ry; exact eq_bool (fin_bl I q dec_bl)
    | str j => obtain ⟨t', rfl⟩ := ry; exact PySem.EqMixed.eq_bool_str (fin_bl I q (by simp))
    | _ => exact absurd (show false = true from hs) Bool.false_ne_true
  | int i =>
    obtain ⟨t, rfl⟩ := rx
    cases y with
    | non => cases ry; exact PySem.EqNone.eq_int_none (fin_bl I q (by simp))
    | int j => obtain ⟨t', rfl⟩ := ry; exact eq_int (fin_bl I q dec_int)
    | str j => obtain ⟨t', rfl⟩ := ry; exact PySem.EqMixed.eq_int_str (fin_bl I q (by simp))
    | _ => exact absurd (show false = true from hs) Bool.false_ne_true
  | str i =>
    obtain ⟨t, rfl⟩ := rx
    cases y with
    | non => cases ry; exact PySem.EqNone.eq_str_none (fin_bl I q (by simp))
    | bl j => cases ry; exact PySem.EqMixed.eq_str_bool (fin_bl I q (by simp))
    | int j => obtain ⟨t', rfl⟩ := ry; exact PySem.EqMixed.eq_str_int (fin_bl I q (by simp))
    | str j => obtain ⟨t', rfl⟩ := ry; exact eq_str (fin_bl I q dec_str)
    | _ => exact absurd (show false = true from hs) Bool.false_ne_true
  | byt i =>
    obtain ⟨t, rfl⟩ := rx
    cases y with
    | byt j => obtain ⟨t', rfl⟩ := ry; exact PySem.W.eq_bytes (fin_bl I q dec_byt)
    | _ => exact absurd (show false = true from hs) Bool.false_ne_true
  | _ => cases y <;> exact absurd (show false = true from hs) Bool.false_ne_true
theorem op_ne : OpR X (compareOp .NotEq) rNe := by
  intro pins s σ H x y v u Q I rx ry h
  obtain ⟨hs, q⟩ := h
  cases x with
  | non =>
    cases rx
    cases y with
    | non => cases ry; exact PySem.EqNone.ne_none_none (fin_bl I q (by simp))
    | bl j => cases ry; exact PySem.EqNone.ne_none_bool (fin_bl I q (by simp))
    | int j => obtain ⟨t', rfl⟩ := ry; exact PySem.EqNone.ne_none_int (fin_bl I q (by simp))
    | str j => obtain ⟨t', rfl⟩ := ry; exact PySem.EqNone.ne_none_str (fin_bl I q (by simp))
    | _ => exact absurd (show false = true from hs) Bool.false_ne_true
  | bl i =>
    cases rx
    cases y with
    | non => cases ry; exact PySem.EqNone.ne_bool_none (fin_bl I q (by simp))
    | bl j => cases ry; exact ne_bool (fin_bl I q (congrArg not dec_bl))
    | str j => obtain ⟨t', rfl⟩ := ry; exact PySem.EqMixed.ne_bool_str (fin_bl I q (by simp))
    | _ => exact absurd (show false = true from hs) Bool.false_ne_true
  | int i =>
    obtain ⟨t, rfl⟩ := rx
    cases y with
    | non => cases ry; exact PySem.EqNone.ne_int_none (fin_bl I q (by simp))
    | int j => obtain ⟨t', rfl⟩ := ry; exact ne_int (fin_bl I q (congrArg not dec_int))
    | str j => obtain ⟨t', rfl⟩ := ry; exact PySem.EqMixed.ne_int_str (fin_bl I q (by simp))
    | _ => exact absurd (show false = true from hs) Bool.false_ne_true
  | str i =>
    obtain ⟨t, rfl⟩ := rx
    cases y with
    | non => cases ry; exact PySem.EqNone.ne_str_none (fin_bl I q (by simp))
    | bl j => cases ry; exact PySem.EqMixed.ne_str_bool (fin_bl I q (by simp))
    | int j => obtain ⟨t', rfl⟩ := ry; exact PySem.EqMixed.ne_str_int (fin_bl I q (by simp))
    | str j => obtain ⟨t', rfl⟩ := ry; exact ne_str (fin_bl I q (congrArg not dec_str))
    | _ => exact absurd (show false = true from hs) Bool.false_ne_true
  | byt i =>
    obtain ⟨t, rfl⟩ := rx
    cases y with
    | byt j => obtain ⟨t', rfl⟩ := ry; exact PySem.W.ne_bytes (fin_bl I q (congrArg not dec_byt))
    | _ => exact absurd (show false = true from hs) Bool.false_ne_true
  | _ => cases y <;> exact absurd (show false = true from hs) Bool.false_ne_true

theorem op_lt : OpR X (compareOp .Lt) (rI0 fun i j => .bl (decide (i < j))) := opB0 fun _ _ _ _ _ _ _ q => lt_int q
inductive r_op_leI (x : V) (y : V) (H : Hp) (Q : VK) : Prop
  | mk (i : _) (j : _) (h0_ : x = .str i) (h1_ : y = .str j) (h2_ : Q (.bl (decide (i.cps.toList < j.cps.toList))) H) : r_op_leI x y H Q
theorem op_gt : OpR X (compareOp .Gt) (rI0 fun i j => .bl (decide (j < i))) := opB0 fun _ _ _ _ _ _ _ q => gt_int q
theorem op_ge : OpR X (compareOp .GtE) (rI0 fun i j => .bl (decide (j ≤ i))) := opB0 fun _ _ _ _ _ _ _ q => ge_int q
inductive r_op_in_strI (x : V) (y : V) (H : Hp) (Q : VK) : Prop
  | mk (i : _) (j : _) (h0_ : x = .str i) (h1_ : y = .str j) (h2_ : Q (.bl (!(Builtin.Str.occurrences j i 0 j.length 1).isEmpty)) H) : r_op_in_strI x y H Q
inductive r_op_notin_strI (x : V) (y : V) (H : Hp) (Q : VK) : Prop
  | mk (i : _) (j : _) (h0_ : x = .str i) (h1_ : y = .str j) (h2_ : Q (.bl (!(!(Builtin.Str.occurrences j i 0 j.length 1).isEmpty))) H) : r_op_notin_strI x y H Q
def isObj : HO → Bool
  | .lst _ => true
  | .ins _ _ _ => true
  | _ => false
inductive r_op_is_refI (x : V) (y : V) (H : Hp) (Q : VK) : Prop
  | mk (a : _) (b : _) (oa : _) (ob : _) (h0_ : x = .ref a) (h1_ : y = .ref b) (h2_ : H a = some oa) (h3_ : isObj oa = true) (h4_ : H b = some ob) (h5_ : isObj ob = true) (h6_ : Q (.bl (decide (a = b))) H) : r_op_is_refI x y H Q
inductive r_op_isnot_refI (x : V) (y : V) (H : Hp) (Q : VK) : Prop
  | mk (a : _) (b : _) (oa : _) (ob : _) (h0_ : x = .ref a) (h1_ : y = .ref b) (h2_ : H a = some oa) (h3_ : isObj oa = true) (h4_ : H b = some ob) (h5_ : isObj ob = true) (h6_ : Q (.bl (!decide (a = b))) H) : r_op_isnot_refI x y H Q
theorem nomark (b : Expr) {op : CmpOp} (h : op ≠ .In := by decide) (h2 : op ≠ .NotIn := by decide) : behindInMarks op b = false := by
  have e1 : (op == CmpOp.In) = false := by cases op <;> first | rfl | exact absurd rfl h
  have e2 : (op == CmpOp.NotIn) = false := by cases op <;> first | rfl | exact absurd rfl h2
  cases b <;> simp [behindInMarks, e1, e2]
theorem pe_cmpR {op : CmpOp} {r : R2} (ho : OpR X (compareOp op) r) (ha : PE X a ta) (hb : PE X b tb) (hm : behindInMarks op b = false) : PE X (.Compare a [op] [b] pos) (tOp r ta tb) := by
  intro pins s σ H Q I h
  exact wpAny_Compare1 (binT ha hb I h fun v u s2 x y H2 I2 rx ry q => ho pins s2 σ H2 x y v u Q I2 rx ry q) hm
def tTest (t : TE) : TT := fun σ H Q => t σ H fun x H' => BlQ x H' Q
theorem pt_cmpR {op : CmpOp} {r : R2} (ho : OpR X (compareOp op) r) (ha : PE X a ta) (hb : PE X b tb) (hm : behindInMarks op b = false) : PT X (.Compare a [op] [b] pos) (tTest (tOp r ta tb)) := by
  intro pins s σ H Q I h
  refine wpAny_isTrue_Compare1 (thn (ha pins s σ H _ I h) fun v s1 zq => zq.elim fun x H1 I1 r1 q1 => thn (hb pins s1 σ H1 _ I1 q1) fun u s2 ⟨y, H2, I2, r2, q2⟩ =>
    thn (ho pins s2 σ H2 x y v u _ I2 r1 r2 q2) fun c s3 ⟨z, H3, I3, r3, k, e, q3⟩ => ?_) hm
  subst e
  cases r3
  exact wpAny_truthy_bool ⟨H3, I3, q3⟩
def TruV (K : PySem.W.Frag) (x : V) (H : Hp) (k : Bool) : Prop :=
  match x with
  | .non => k = false
  | .bl b => k = b
  | .int i => k = (i != 0)
  | .str y => y.length ≤ sizeLine ∧ k = ((y.length : Int) != 0)
  | .byt y => y.size ≤ sizeLine ∧ k = ((y.size : Int) != 0)
  | .ref p => (∃ xs, SqL K H p xs ∧ k = !xs.isEmpty) ∨ (∃ xs, SqT K H p xs ∧ k = !xs.isEmpty) ∨ ∃ kvs, H p = some (.dK kvs) ∧ k = !kvs.isEmpty
  | _ => False
theorem isEmpty_kv {κ : Type} {kvs : List (κ × V)} {vs : List (κ × Value)} (r : KV kvs vs) : (!vs.isEmpty) = !kvs.isEmpty := by
  cases r <;> rfl
theorem isEmpty_of {xs : List V} {its : List Value} (r : Vals xs its) : (!its.toArray.isEmpty) = !xs.isEmpty := by
  cases r <;> simp
theorem line63 : (sizeLine : Nat) < 2 ^ 63 := by rw [sizeLine_eq]; decide
theorem tru_ok : TruR X (fun x H Q => ∃ k, TruV X.K x H k ∧ Q k H) := by
  intro pins s σ H x v Q I rx h
  obtain ⟨k, e, q⟩ := h
  have hl := line63
  have hs : sizeLine = 16777216 := sizeLine_eq
  cases x with
  | non =>
    cases rx
    have e' : k = false := e
    subst e'
    exact truthy_none ⟨H, I, q⟩
  | bl b =>
    cases rx
    have e' : k = b := e
    subst e'
    exact wpAny_truthy_bool ⟨H, I, q⟩
  | int i =>
    obtain ⟨t, rfl⟩ := rx
    have e' : k = (i != 0) := e
    subst e'
    exact PySem.P.truthy_int ⟨H, I, q⟩
  | str y =>
    obtain ⟨t, rfl⟩ := rx
    obtain ⟨hy, e'⟩ : y.length ≤ sizeLine ∧ k = ((y.length : Int) != 0) := e
    subst e'
    exact PySem.P.truthy_str (by omega) ⟨H, I.tok _, q⟩
  | byt y =>
    obtain ⟨t, rfl⟩ := rx
    obtain ⟨hy, e'⟩ : y.size ≤ sizeLine ∧ k = ((y.size : Int) != 0) := e
    subst e'
    exact PySem.W.truthy_bytes (by omega) ⟨H, I.tok _, q⟩
  | ref p =>
    cases rx
    have e' : (∃ xs, SqL X.K H p xs ∧ k = !xs.isEmpty) ∨ (∃ xs, SqT X.K H p xs ∧ k = !xs.isEmpty) ∨ ∃ kvs, H p = some (.dK kvs) ∧ k = !kvs.isEmpty := e
    rcases e' with ⟨xs, hx, e'⟩ | ⟨xs, hx, e'⟩ | ⟨kvs, hx, e'⟩
    · subst e'
      obtain ⟨its, r, pl, hz⟩ := I.list hx
      have hlen := r.length
      exact wpAny_truthy_list pl.isList (by simp only [List.size_toArray]; omega) ⟨H, I.tok _, by rw [isEmpty_of r]; exact q⟩
    · subst e'
      obtain ⟨its, r, pl, hz⟩ := I.tuple hx
      have hlen := r.length
      exact truthy_tuple pl (by simp only [List.size_toArray]; omega) ⟨H, I.tok _, by rw [isEmpty_of r]; exact q⟩
    · subst e'
      obtain ⟨hz, hS, vs, r, m⟩ : kvs.length ≤ sizeLine ∧ (p == sysModules) = false ∧ ∃ vs, KV kvs vs ∧ s.heap.DictOf (mixKind X.prog X.w) p vs := I.hok p _ hx
      have hlen : kvs.length = vs.length := Paired.length r
      exact wpAny_truthy_dict hS m (by omega) ⟨H, I.tok _, by rw [isEmpty_kv r]; exact q⟩
  | _ => exact (show False from e).elim
theorem pt_truth (ha : PE X a ta) (he : ∀ whole, isTrue a X.env whole = (do let v ← whole; standAt a.pos; holding [v] (truthy v))) :
    PT X a (fun σ H Q => ta σ H fun x H' => ∃ k, TruV X.K x H' k ∧ Q k H') := by
  intro pins s σ H Q I h
  exact isTrue_plain (thn (ha pins s σ H _ I h) fun v s1 zq => zq.elim fun x H1 I1 r1 q1 => tru_ok pins s1 σ H1 x v Q I1 r1 q1) (he _)

inductive r_op_add_strI (x : V) (y : V) (H : Hp) (Q : VK) : Prop
  | mk (i : _) (j : _) (h0_ : x = .str i) (h1_ : y = .str j) (h2_ : i.length + j.length ≤ sizeLine) (h3_ : Q (.str (i ++ j)) H) : r_op_add_strI x y H Q
def r_op_add_str : V → V → Hp → VK → Prop := fun x y H Q => r_op_add_strI x y H Q
theorem op_add_str : OpR X (binaryOp .Add) r_op_add_str := by
  intro pins s σ H x y v u Q I rx ry h
  obtain ⟨i, j, rfl, rfl, hz, q⟩ := h
  obtain ⟨t, rfl⟩ := rx
  obtain ⟨t', rfl⟩ := ry
  exact add_str (fun t' tk => ⟨.str (i ++ j), H, I.tok _, ⟨_, rfl⟩, q⟩) hz
inductive r_iop_add_strI (x : V) (y : V) (H : Hp) (Q : VK) : Prop
  | mk (i : _) (j : _) (h0_ : x = .str i) (h1_ : y = .str j) (h2_ : i.length + j.length ≤ sizeLine) (h3_ : Q (.str (i ++ j)) H) : r_iop_add_strI x y H Q
inductive r_op_add_bytI (x : V) (y : V) (H : Hp) (Q : VK) : Prop
  | mk (i : _) (j : _) (h0_ : x = .byt i) (h1_ : y = .byt j) (h2_ : i.size + j.size ≤ 16777216) (h3_ : Q (.byt (i ++ j)) H) : r_op_add_bytI x y H Q
theorem vals1 {x : V} {us : List Value} (r : Vals [x] us) : ∃ u, us = [u] ∧ RelV x u := by
  cases r with
  | cons r1 r2 => cases r2; exact ⟨_, rfl, r1⟩
theorem vals2 {x y : V} {us : List Value} (r : Vals [x, y] us) : ∃ u w', us = [u, w'] ∧ RelV x u ∧ RelV y w' := by
  cases r with
  | cons r1 r2 =>
    cases r2 with
    | cons r3 r4 => cases r4; exact ⟨_, _, rfl, r1, r3⟩
inductive r_call_absI (xs : List V) (H : Hp) (Q : VK) : Prop
  | mk (i : _) (h0_ : xs = [.int i]) (h1_ : Q (.int (if i < 0 then -i else i)) H) : r_call_absI xs H Q
inductive r_call_max2I (xs : List V) (H : Hp) (Q : VK) : Prop
  | mk (i : _) (j : _) (h0_ : xs = [.int i, .int j]) (h1_ : Q (.int (if j > i then j else i)) H) : r_call_max2I xs H Q
inductive r_call_min2I (xs : List V) (H : Hp) (Q : VK) : Prop
  | mk (i : _) (j : _) (h0_ : xs = [.int i, .int j]) (h1_ : Q (.int (if j < i then j else i)) H) : r_call_min2I xs H Q
theorem call_int1 : CallR X (.type "int") (fun xs H Q => (∃ i, xs = [.int i] ∧ Q (.int i) H) ∨ ∃ k, xs = [.bl k] ∧ Q (.int (if k then 1 else 0)) H) := by
  intro pins s σ H xs us Q I r h
  rcases h with ⟨i, rfl, q⟩ | ⟨k, rfl, q⟩
  · obtain ⟨u, rfl, t, rfl⟩ := vals1 r
    exact call_int_int ⟨.int i, H, I, ⟨_, rfl⟩, q⟩
  · obtain ⟨u, rfl, r1⟩ := vals1 r
    cases r1
    exact call_int_bool ⟨.int (if k then 1 else 0), H, I.tok _, ⟨_, rfl⟩, q⟩
inductive r_call_str_intI (xs : List V) (H : Hp) (Q : VK) : Prop
  | mk (i : _) (h0_ : xs = [.int i]) (h1_ : i.natAbs.log2 < 1920) (h2_ : Q (.str (toString i)) H) : r_call_str_intI xs H Q
inductive r_call_ordI (xs : List V) (H : Hp) (Q : VK) : Prop
  | mk (x : _) (h0_ : xs = [.str x]) (h1_ : x.length = 1) (h2_ : Q (.int (x.cps.getD 0 0 : Nat)) H) : r_call_ordI xs H Q
inductive r_call_chrI (xs : List V) (H : Hp) (Q : VK) : Prop
  | mk (i : _) (h0_ : xs = [.int i]) (h1_ : 0 ≤ i) (h2_ : i ≤ 1114111) (h3_ : Q (.str ⟨#[i.toNat]⟩) H) : r_call_chrI xs H Q
def LenV (K : PySem.W.Frag) (x : V) (H : Hp) (n : Nat) : Prop :=
  match x with
  | .str y => y.length ≤ sizeLine ∧ n = y.length
  | .byt y => y.size ≤ sizeLine ∧ n = y.size
  | .ref p => (∃ xs, SqL K H p xs ∧ n = xs.length) ∨ ∃ xs, SqT K H p xs ∧ n = xs.length
  | _ => False
inductive r_call_lenI (K : PySem.W.Frag) (xs : List V) (H : Hp) (Q : VK) : Prop
  | mk (x : _) (n : _) (h0_ : xs = [x]) (h1_ : LenV K x H n) (h2_ : Q (.int n) H) : r_call_lenI K xs H Q
inductive r_call_divmodI (xs : List V) (H : Hp) (Q : VK) : Prop
  | mk (i : _) (j : _) (h0_ : xs = [.int i, .int j]) (h1_ : CDiv i j) (h2_ : ∀ p, H p = none → Q (.ref p) (upd H p (.tup [.int (i / j), .int (i % j)]))) : r_call_divmodI xs H Q
end
end L2

namespace L2
open PySem PySem.Spec PyProof.Rows

structure ObjM (h : Heap) (x dx C : Addr) (mA : Str → Option Value) : Prop where
  obj : h.get? x = some (PySem.W.instObj C dx)
  ns : h.Ns1 dx mA
  ne : dx ≠ x

theorem lookIn_ns {h : Heap} {dx : Addr} {mA : Str → Option Value} (n : h.Ns1 dx mA) : ∃ od, h.get? dx = some od ∧ ∀ name, PySem.W.lookIn name od = some (mA name) := by
  obtain ⟨o, es, ep, ho, hd, hk, _, hm⟩ := n
  refine ⟨o, ho, fun name => ?_⟩
  have e := hm name
  unfold nsFind findBy at e
  rw [← Array.find?_toList] at e
  unfold PySem.W.lookIn
  rw [hd]
  dsimp only
  split
  · rename_i y q
    rw [q] at e
    exact congrArg some e
  · rename_i q
    rw [q] at e
    have a : es.toList.any (·.refKey) = false := by
      rw [List.any_eq_false]
      intro y hy
      obtain ⟨z, t, hkey⟩ := hk y (Array.mem_toList_iff.mp hy)
      simp [DictEntry.refKey, hkey]
    have a' : ¬ es.toList.any (·.refKey) = true := by rw [a]; exact Bool.false_ne_true
    rw [if_neg a']
    exact congrArg some e

theorem ObjM.look {h : Heap} {x dx C : Addr} {mA : Str → Option Value} (I : ObjM h x dx C mA) : ∃ od, PySem.W.InstAt h x (PySem.W.instObj C dx) C (some od) ∧ ∀ name, PySem.W.lookIn name od = some (mA name) :=
  let ⟨od, ho, hl⟩ := lookIn_ns I.ns
  ⟨od, ⟨I.obj, rfl, rfl, ho⟩, hl⟩

section
variable {prog : Program} {w : World} {A : Around} {E : Value → Shared → Prop} {s : Shared} {K : PySem.W.Frag} {x dx C f : Addr} {mA : Str → Option Value} {name : Str} {v : Value}

end

theorem RelO.some_of {v : V} {o : Option Value} (r : RelO (some v) o) : ∃ u, o = some u ∧ RelV v u := by
  cases o with
  | none => exact (show False from r).elim
  | some u => exact ⟨u, rfl, r⟩
section
variable {P : Program} {w : World} {H H' : Hp} {h h' : Heap} {a C dx : Addr} {fs fs' : List (Str × V)}
theorem ins_get (hok : HOk P w H h) (e : H a = some (.ins C dx fs)) : ∃ mA, ObjM h a dx C mA ∧ (∀ f, RelO (fs.lookup f) (mA f)) ∧ PySem.Within mA (fs.map (·.1)) ∧ fs.length ≤ 1000 ∧ H dx = some (.own a) := by
  obtain ⟨d, z, ne, ob, mA, n, r, q⟩ := (show ObjOk P w H h a (.ins C dx fs) from hok a _ e)
  exact ⟨mA, ⟨ob, n, ne⟩, r, q, z, d⟩
end

structure Cls (K : PySem.W.Frag) (C : Addr) : Prop where
  pg : PySem.W.plainGet K C Str.empty = true
  hd : PySem.W.hasDictIn K C = true
  po : PySem.W.plainOver K C = true
  sa : PySem.W.findIn K (.ref C) "__setattr__" = some (some (.builtin "object.__setattr__"))
theorem Cls.get {K : PySem.W.Frag} {C : Addr} (c : Cls K C) (f : Str) : PySem.W.plainGet K C f = true := c.pg
structure Con (K : PySem.W.Frag) (C : Addr) (f : Str) (v : V) (u : Value) : Prop where
  at_ : PySem.W.findIn K (.ref C) f = some (some u)
  rel : RelV v u
  get : PySem.W.specialIn K u "__get__" = some none
  cp : PySem.W.copiedNames.contains f = false
structure Meth (K : PySem.W.Frag) (C : Addr) (m : Str) (f : Addr) : Prop where
  at_ : PySem.W.findIn K (.ref C) m = some (some (.ref f))
  fn : PySem.W.isFn K (.ref f) = true
  kp : PySem.W.keepIn K (.ref f) = true

section
variable {X : Cx} {pins : List (Addr × Obj)} {σ : St} {H : Hp} {s : Shared} {a C dx : Addr} {fs : List (Str × V)} {f : Str} {v : V} {A : Around} {E : Value → Shared → Prop}

end

section
variable {X : Cx} {o e value : Expr} {f : Str} {pos pos' tpos : Pos} {ta tv : TE}
inductive rAddI (x : V) (y : V) (H : Hp) (Q : VK) : Prop
  | mk (i : _) (j : _) (x0 : x = .int i) (x1 : y = .int j) (x2 : Q (.int (i + j)) H) : rAddI  x y H Q
inductive rSubI (x : V) (y : V) (H : Hp) (Q : VK) : Prop
  | mk (i : _) (j : _) (x0 : x = .int i) (x1 : y = .int j) (x2 : Q (.int (i - j)) H) : rSubI  x y H Q
end

section
variable {X : Cx} {pins : List (Addr × Obj)} {σ : St} {H : Hp} {s : Shared} {A : Around} {E : Value → Shared → Prop} {Q : Value → Shared → Prop} {c : Value} {b : Bool}
inductive TyOf (K : PySem.W.Frag) (H : Hp) : V → Value → Prop where
  | non : TyOf K H .non (.type "NoneType")
  | bl (x : Bool) : TyOf K H (.bl x) (.type "bool")
  | int (i : Int) : TyOf K H (.int i) (.type "int")
  | str (x : Str) : TyOf K H (.str x) (.type "str")
  | flt (x : UInt64) : TyOf K H (.flt x) (.type "float")
  | lst {a : Addr} {xs : List V} (e : H a = some (.lst xs)) : TyOf K H (.ref a) (.type "list")
  | frz {a : Addr} {o : Obj} {xs : List V} (e : H a = some (.frz o (.lst xs))) : TyOf K H (.ref a) (.type "list")
  | tup {a : Addr} {xs : List V} (e : H a = some (.tup xs)) : TyOf K H (.ref a) (.type "tuple")
  | dK {a : Addr} {kvs : List (Key × V)} (e : H a = some (.dK kvs)) : TyOf K H (.ref a) (.type "dict")
  | dT {a : Addr} {kvs : List (List Key × V)} (e : H a = some (.dT kvs)) : TyOf K H (.ref a) (.type "dict")
  | ins {a C dx : Addr} {fs : List (Str × V)} (e : H a = some (.ins C dx fs)) (cl : Cls K C) (ha : PySem.W.findIn K (.ref C) "__class__" = some (some (.builtin "object.__class__")))
      (hn : PySem.W.specialIn K (.builtin "object.__class__") "__get__" = some (some (.builtin "getset_descriptor.__get__"))) (htk : PySem.W.takesIn K (.builtin "object.__class__") = some true)
      (hm : PySem.W.mroIn K C (.type "object") = some true) : TyOf K H (.ref a) (.ref C)
theorem isinst_ok {x : V} {u t : Value} (I : Inv X pins σ H s) (rx : RelV x u) (ty : TyOf X.K H x t) (e : PySem.W.kitOne X.K t c = some b) (h : ∀ tk, Q (.bool b) { s with toks := tk }) :
    wpAny (model X.prog X.w) A (call (.builtin "isinstance") [u, c]) Q E s := by
  cases ty with
  | non => cases (show u = Value.none from rx); exact PySem.W.kia_one PySem.W.kitx_none I.kIn True.intro e (fun z => nomatch z) h
  | bl y => cases (show u = Value.bool y from rx); exact PySem.W.kia_one PySem.W.kitx_bool I.kIn True.intro e (fun z => nomatch z) h
  | int i => obtain ⟨t, q⟩ := (show ∃ t, u = Value.int i t from rx); cases q; exact PySem.W.kia_one PySem.W.kitx_int I.kIn True.intro e (fun z => nomatch z) h
  | str y => obtain ⟨t, q⟩ := (show ∃ t, u = Value.str y t from rx); cases q; exact PySem.W.kia_one PySem.W.kitx_str I.kIn True.intro e (fun z => nomatch z) h
  | flt y => obtain ⟨t, q⟩ := (show ∃ t, u = Value.float y t from rx); cases q; exact PySem.W.kia_one PySem.W.kitx_float I.kIn True.intro e (fun z => nomatch z) h
  | @lst a xs ea =>
    cases (show u = Value.ref a from rx)
    obtain ⟨_, _, n, _, h1⟩ := (show ObjOk X.prog X.w H s.heap a (.lst xs) from I.hok a _ ea)
    exact PySem.W.kia_one PySem.W.kitx_list I.kIn ⟨_, h1, rfl⟩ e (fun z => nomatch z) h
  | @frz a ob xs ea =>
    cases (show u = Value.ref a from rx)
    obtain ⟨_, _, _, n, _, h1⟩ := (show ObjOk X.prog X.w H s.heap a (.frz ob (.lst xs)) from I.hok a _ ea)
    exact PySem.W.kia_one PySem.W.kitx_list I.kIn ⟨_, h1, rfl⟩ e (fun z => nomatch z) h
  | @tup a xs ea =>
    cases (show u = Value.ref a from rx)
    obtain ⟨_, _, _, p⟩ := (show ObjOk X.prog X.w H s.heap a (.tup xs) from I.hok a _ ea)
    obtain ⟨o, h1, h2, _⟩ := p
    exact PySem.W.kia_one PySem.W.kitx_tuple I.kIn ⟨o, h1, h2⟩ e (fun z => nomatch z) h
  | @dK a kvs ea =>
    cases (show u = Value.ref a from rx)
    obtain ⟨_, _, vs, _, p⟩ := (show ObjOk X.prog X.w H s.heap a (.dK kvs) from I.hok a _ ea)
    obtain ⟨o, es, ep, h1, h2, _⟩ := p
    exact PySem.W.kia_one PySem.W.kitx_dict I.kIn ⟨o, h1, h2.1⟩ e (fun z => nomatch z) h
  | @dT a kvs ea =>
    cases (show u = Value.ref a from rx)
    obtain ⟨_, _, xs, _, o, es, ep, h1, h2, _⟩ := (show ObjOk X.prog X.w H s.heap a (.dT kvs) from I.hok a _ ea)
    exact PySem.W.kia_one PySem.W.kitx_dict I.kIn ⟨o, h1, h2.1⟩ e (fun z => nomatch z) h
  | @ins a C dx fs ea cl ha hn htk hm =>
    cases (show u = Value.ref a from rx)
    obtain ⟨mA, O, _⟩ := ins_get I.hok ea
    obtain ⟨od, J, _⟩ := O.look
    exact PySem.W.kia_one (PySem.W.kitx_own (cl.get _) cl.hd ha hn htk hm) I.kIn J e (fun z => nomatch z) h
end
end L2

namespace L2
open PySem PySem.Spec PyProof.Rows

structure Room (k : Nat) (A : Around) : Prop where
  hd : A.handled = none
  dp : A.depth + 3 * k + 5 < recursionLimit
  un : A.units + 16 * k + 200 < cLine
  gd : A.guards = some []
theorem Room.mono {j k : Nat} {A : Around} (r : Room k A) (h : j ≤ k) : Room j A := ⟨r.hd, by have := r.dp; omega, by have := r.un; omega, r.gd⟩
theorem Room.deeper {k : Nat} {A : Around} (r : Room (k + 1) A) (env : Env) : Room k (A.deeper env) :=
  ⟨r.hd, by have := r.dp; show A.depth + 1 + 3 * k + 5 < _; omega, by have := r.un; show A.units + 3 + 16 * k + 200 < _; omega, r.gd⟩
theorem Room.depth {k : Nat} {A : Around} (r : Room k A) : A.depth < recursionLimit := by have := r.dp; omega
theorem Room.units {k : Nat} {A : Around} (r : Room k A) : A.units + 64 < cLine := by have := r.un; omega
theorem Room.units0 {k : Nat} {A : Around} (r : Room k A) : A.units < cLine := by have := r.un; omega

def tNil : TA := fun _ H Q => Q [] H
def tCons (ta : TE) (tr : TA) : TA := fun σ H Q => ta σ H fun x H1 => tr σ H1 fun xs H2 => Q (x :: xs) H2
section
variable {X : Cx} {e : Expr} {es : List Expr} {te : TE} {t : TA} {pos : Pos}
theorem pa_nil : PA X [] tNil := fun _ _ _ _ H Q I h => Calls.spliced_nil ⟨[], H, I, .nil, h⟩
theorem pa_cons (ha : PE X e te) (hr : PA X es t) (hs : starEach (e :: es) X.env = (false, eval e X.env) :: starEach es X.env := by rfl) : PA X (e :: es) (tCons te t) := by
  intro pos pins s σ H Q I h
  rw [hs]
  show wpAny _ _ (spliced ((false, eval e X.env) :: backTo pos (starEach es X.env))) _ _ s
  refine Calls.spliced_cons (thn (ha pins s σ H _ I h) fun u s1 zq => zq.elim fun x H1 I1 r1 q1 => ?_)
  exact thn (hr pos pins s1 σ H1 _ I1 q1) fun us s2 zq => zq.elim fun xs H2 I2 r2 q2 => ⟨x :: xs, H2, I2, .cons r1 r2, q2⟩

def tTup (t : TA) : TE := fun σ H Q => t σ H fun xs H1 => xs.length ≤ sizeLine ∧ ∀ p, H1 p = none → Q (.ref p) (upd H1 p (.tup xs))
def tLst (t : TA) : TE := fun σ H Q => t σ H fun xs H1 => xs.length ≤ sizeLine ∧ ∀ p, H1 p = none → Q (.ref p) (upd H1 p (.lst xs))
theorem pe_tup {x1} (h : PA X es t) : PE X (.Tuple es x1 pos) (tTup t) := by
  intro pins s σ H Q I hq
  refine wpAny_Tuple_spliced (thn (h pos pins s σ H _ I hq) fun us s1 ⟨xs, H1, I1, r, z, q⟩ => ⟨by rw [← r.length]; exact z, ?_⟩)
  have hf : H1 s1.heap.objs.size = none := I1.hok.fresh (Nat.le_refl _)
  refine ⟨.ref s1.heap.objs.size, upd H1 s1.heap.objs.size (.tup xs), I1.laid (t' := s1.toks) (fun b u e => Heap.get?_push_of_some _ e) (Nat.le_refl _) ?_, rfl, q _ hf⟩
  exact ⟨z, us, r, ⟨_, Heap.get?_push_size _ rfl, rfl, _, rfl⟩⟩
theorem pe_lst (h : PA X es t) : PE X (.List es pos) (tLst t) := by
  intro pins s σ H Q I hq
  refine wpAny_List_spliced (thn (h pos pins s σ H _ I hq) fun us s1 ⟨xs, H1, I1, r, z, q⟩ => ⟨by rw [← r.length]; exact z, ?_⟩)
  have hf : H1 s1.heap.objs.size = none := I1.hok.fresh (Nat.le_refl _)
  refine ⟨.ref s1.heap.objs.size, upd H1 s1.heap.objs.size (.lst xs), I1.laid (t' := s1.toks) (fun b u e => Heap.get?_push_of_some _ e) (Nat.le_refl _) ?_, rfl, q _ hf⟩
  exact ⟨z, us, 0, r, Heap.get?_push_size _ rfl⟩
end

abbrev Sp := List V → Hp → VK → XK → Prop
abbrev CXT := List Env → Hp → Shared → XK → Value → Shared → Prop

structure Env0 (P : Program) (w : World) (K : PySem.W.Frag) (mg : Str → Option Value) (base : Heap) (A : Around) (outer : List Env) (s : Shared) (H : Hp) : Prop where
  frames : A.frames = some outer
  mod : Mod K mg base
  bs : ∀ b o, base.get? b = some o → s.heap.get? b = some o ∧ H b = none
  bsz : base.objs.size ≤ s.heap.objs.size
  funs : s.heap.FunFrames base outer
  frf : ∀ b ∈ frs outer, H b = none
  hok : HOk P w H s.heap
  bare : AllBare s.gens
inductive CE (outer : List Env) (P : Program) (w : World) (H : Hp) (s : Shared) (Q : VK) (u : Value) (s' : Shared) : Prop
  | mk (v : V) (H' : Hp) (os : s'.os = s.os) (bare : AllBare s'.gens) (un : Un (frs outer) [] H H' s.heap s'.heap) (hok : HOk P w H' s'.heap) (r : RelV v u) (q : Q v H') : CE outer P w H s Q u s'
def CR (CX : CXT) (outer : List Env) (P : Program) (w : World) (H : Hp) (s : Shared) (Q : VK) (E : XK) (r : Result) (s' : Shared) : Prop :=
  match r with
  | .ok (.ret u) => CE outer P w H s Q u s'
  | .ok _ => False
  | .error e => CX outer H s E e s'
structure FnOk (P : Program) (w : World) (K : PySem.W.Frag) (mg : Str → Option Value) (base : Heap) (CX : CXT) (k : Nat) (f : Addr) (fd : FuncData) (ps : List Str) (sp : Sp) : Prop where
  len : ∀ vs H Q E, sp vs H Q E → vs.length = ps.length
  run : ∀ (A : Around) (outer : List Env) (s : Shared) (H : Hp) (args : Args) (us : List Value) (vs : List V) (Q : VK) (E : XK), Room k A → Env0 P w K mg base A outer s H → BindsTo s fd args (ps.zip us) → Vals vs us → sp vs H Q E →
    codeAny (model P w) A (.call (.ref f) args) (CR CX outer P w H s Q E) s
theorem FnOk.imp {P : Program} {w : World} {K : PySem.W.Frag} {mg : Str → Option Value} {base : Heap} {CX : CXT} {k : Nat} {f : Addr} {fd : FuncData} {ps : List Str} {sp sp' : Sp} (F : FnOk P w K mg base CX k f fd ps sp)
    (h : ∀ vs H Q E, sp' vs H Q E → sp vs H Q E) : FnOk P w K mg base CX k f fd ps sp' :=
  ⟨fun vs H Q E q => F.len vs H Q E (h _ _ _ _ q), fun A outer s H args us vs Q E hr he hb hv hs => F.run A outer s H args us vs Q E hr he hb hv (h _ _ _ _ hs)⟩

section
variable {X : Cx} {pins : List (Addr × Obj)} {σ : St} {H : Hp} {s s' : Shared}
theorem Inv.env0 (I : Inv X pins σ H s) : Env0 X.prog X.w X.K X.mg X.base X.A X.stack s H :=
  ⟨I.ok.frames, I.ok.mod, I.bs, Nat.le_trans I.ok.bsz I.sz, I.stack, I.stkFree, I.hok, I.bare⟩
theorem Inv.after {Q : VK} {u : Value} (I : Inv X pins σ H s) (h : CE X.stack X.prog X.w H s Q u s') : EP X pins σ Q u s' := by
  obtain ⟨v, H', os, bare, un, hok, r, q⟩ := h
  obtain ⟨hh, g, d, t, os'⟩ := s'
  obtain rfl : os' = s.os := os
  exact ⟨v, H', I.call (h' := hh) (g' := g) (d' := d) (t' := t) (ch := []) un hok bare (fun b z => absurd z (by simp)), r, q⟩
end

def tCall (sp : Sp) (dvs : List V) (E : XK) (t : TA) : TE := fun σ H Q => t σ H fun vs H1 => sp (vs ++ dvs) H1 Q E
def Binds (K : PySem.W.Frag) (fd : FuncData) (ps : List Str) (ds : List Value) : Prop :=
  ∀ (s : Shared) (us : List Value), K.In s.heap → (us ++ ds).length = ps.length → BindsTo s fd ⟨us, []⟩ (ps.zip (us ++ ds))
theorem Binds.all {K : PySem.W.Frag} {fd : FuncData} {ps : List Str} (h : ∀ us : List Value, us.length = ps.length → bindArgs fd ⟨us, []⟩ = pure (ps.zip us)) : Binds K fd ps [] := fun s us _ hl => by
  rw [List.append_nil] at hl ⊢
  exact .of_eq (h us hl)

def Passes (CX : CXT) (X : Cx) (E : XK) : Prop := ∀ (pins : List (Addr × Obj)) (σ : St) (H : Hp) (s : Shared) (e : Value) (s' : Shared), Inv X pins σ H s → CX X.stack H s E e s' → X.xe e s'

section
variable {X : Cx} {CX : CXT} {k : Nat} {f C : Addr} {fd : FuncData} {ps : List Str} {sp : Sp} {dvs : List V} {ds : List Value} {E : XK} {x m : Str} {p pos apos : Pos} {e o : Expr} {es : List Expr} {ta : TE} {t : TA}

theorem run_fn {pins : List (Addr × Obj)} {σ : St} {H : Hp} {s : Shared} {Q : VK} {us : List Value} {vs : List V} (F : FnOk X.prog X.w X.K X.mg X.base CX k f fd ps sp) (hr : Room k X.A) (hb : Binds X.K fd ps ds) (hd : Vals dvs ds) (hx : Passes CX X E)
    (I : Inv X pins σ H s) (r : Vals vs us) (h : sp (vs ++ dvs) H Q E) : wpAny (model X.prog X.w) X.A (call (.ref f) us) (EP X pins σ Q) X.xe s := by
  have r2 : Vals (vs ++ dvs) (us ++ ds) := r.append hd
  have hl : (us ++ ds).length = ps.length := by rw [← r2.length]; exact F.len _ _ _ _ h
  refine wpAny_call (codeAny_mono (F.run X.A X.stack s H ⟨us, []⟩ (us ++ ds) (vs ++ dvs) Q E hr I.env0 (hb s us I.kIn hl) r2 h) fun r s' hq => ?_)
  cases r with
  | error e => exact hx pins σ H s e s' I hq
  | ok fl =>
    cases fl with
    | ret u => exact I.after hq
    | next => exact False.elim hq
    | brk => exact False.elim hq
    | cont => exact False.elim hq

theorem pe_call (F : FnOk X.prog X.w X.K X.mg X.base CX k f fd ps sp) (hr : Room k X.A) (hg : Gl X x) (hm : X.mg x = some (.ref f)) (hk : PySem.W.keepIn X.K (.ref f) = true) (hb : Binds X.K fd ps ds) (hd : Vals dvs ds) (hx : Passes CX X E)
    (ha : PA X (e :: es) t) (hdb : (x == ("__debug__" : Str)) = false := by decide) (he : starEach (e :: es) X.env = (false, eval e X.env) :: starEach es X.env := by rfl) (hpl : (backTo pos (starEach es X.env)).any (·.1) = false := by rfl) :
    PE X (.Call (.Name x p) (e :: es) [] pos) (tCall sp dvs E t) := by
  intro pins s σ H Q I h
  refine wpAny_Call_Name_kw (ld_glob I hg hm ?_ hdb)
  refine PySem.W.callWith_K (h₀ := X.base) I.ok.mod.kin hk (thn (ha pos pins s σ H _ I h) fun us s1 zq => zq.elim fun vs H1 I1 r q => ⟨I1.kIn, ?_⟩) he hpl
  exact run_fn F hr hb hd hx I1 r q
structure Mk (K : PySem.W.Frag) (C f : Addr) : Prop where
  makes : PySem.W.makesIn K C = true
  init : PySem.W.findIn K (.ref C) "__init__" = some (some (.ref f))
  fn : PySem.W.isFn K (.ref f) = true
  kp : PySem.W.keepIn K (.ref C) = true

end

section
variable {X : Cx} {CX : CXT} {k : Nat} {f C : Addr} {fd : FuncData} {ps ks : List Str} {sp : Sp} {E : XK} {x m : Str} {p pos apos kpos : Pos} {e o : Expr} {es : List Expr} {kws : List Keyword} {te ta : TE} {t tk : TA} {nm : Option Str}
structure KBinds (K : PySem.W.Frag) (fd : FuncData) (ps ks : List Str) (g : List Value → List Value → List Value) (gV : List V → List V → List V) : Prop where
  to : ∀ (s : Shared) (us ws : List Value), K.In s.heap → (g us ws).length = ps.length → BindsTo s fd ⟨us, ks.zip ws⟩ (ps.zip (g us ws))
  rel : ∀ {vs : List V} {us : List Value} {zs : List V} {ws : List Value}, Vals vs us → Vals zs ws → Vals (gV vs zs) (g us ws)
variable {g : List Value → List Value → List Value} {gV : List V → List V → List V}
end

structure FnScope (N P : List Str) (sc : Scope) : Prop where
  kind : sc.kind = .function
  co : sc.isCoroutine = false
  gen : sc.isGenerator = false
  nd : N.Nodup
  pre : N.take P.length = P
  par : ∀ x ∈ P, sc.names.lookup x = some .local ∨ sc.names.lookup x = some .cell
  nofree : ∀ y ∈ sc.names, y.2 ≠ .free

theorem bindL_out {kindOf : Str → Option NameKind} {x : Str} : ∀ {binds : List (Str × Value)} {m : Str → Option Value}, (∀ v, (x, v) ∉ binds) → bindL kindOf binds m x = m x
  | [], _, _ => rfl
  | (n, v) :: r, m, h => by
    unfold bindL
    rw [bindL_out fun w hw => h w (List.mem_cons_of_mem _ hw)]
    split
    · have : x ≠ n := by rintro rfl; exact h v List.mem_cons_self
      simp [this]
    · rfl
theorem bindC_out {kindOf : Str → Option NameKind} {x : Str} : ∀ {binds : List (Str × Value)} {m : Str → Option Value}, (∀ v, (x, v) ∉ binds) → bindC kindOf binds m x = m x
  | [], _, _ => rfl
  | (n, v) :: r, m, h => by
    unfold bindC
    rw [bindC_out fun w hw => h w (List.mem_cons_of_mem _ hw)]
    split
    · rfl
    · have : x ≠ n := by rintro rfl; exact h v List.mem_cons_self
      simp [this]
theorem bindL_get {kindOf : Str → Option NameKind} {x : Str} {v : Value} : ∀ {P : List Str} {vs : List Value} {i : Nat} {m : Str → Option Value}, P.Nodup → P[i]? = some x → vs[i]? = some v → kindOf x = some .local →
    bindL kindOf (P.zip vs) m x = some v
  | [], _, _, _, _, h, _, _ => by simp at h
  | _ :: _, [], _, _, _, _, h, _ => by simp at h
  | p :: P, w :: vs, 0, m, nd, h1, h2, hk => by
    simp at h1 h2; subst h1; subst h2
    show bindL kindOf ((p, w) :: P.zip vs) m p = _
    unfold bindL
    rw [bindL_out fun v hv => (List.nodup_cons.mp nd).1 (List.of_mem_zip hv).1, if_pos hk]
    simp
  | p :: P, w :: vs, i + 1, m, nd, h1, h2, hk => by
    show bindL kindOf ((p, w) :: P.zip vs) m x = _
    unfold bindL
    exact bindL_get (i := i) (List.nodup_cons.mp nd).2 (by simpa using h1) (by simpa using h2) hk
theorem bindC_get {kindOf : Str → Option NameKind} {x : Str} {v : Value} : ∀ {P : List Str} {vs : List Value} {i : Nat} {m : Str → Option Value}, P.Nodup → P[i]? = some x → vs[i]? = some v → kindOf x ≠ some .local →
    bindC kindOf (P.zip vs) m x = some v
  | [], _, _, _, _, h, _, _ => by simp at h
  | _ :: _, [], _, _, _, _, h, _ => by simp at h
  | p :: P, w :: vs, 0, m, nd, h1, h2, hk => by
    simp at h1 h2; subst h1; subst h2
    show bindC kindOf ((p, w) :: P.zip vs) m p = _
    unfold bindC
    rw [bindC_out fun v hv => (List.nodup_cons.mp nd).1 (List.of_mem_zip hv).1, if_neg hk]
    simp
  | p :: P, w :: vs, i + 1, m, nd, h1, h2, hk => by
    show bindC kindOf ((p, w) :: P.zip vs) m x = _
    unfold bindC
    exact bindC_get (i := i) (List.nodup_cons.mp nd).2 (by simpa using h1) (by simpa using h2) hk

def start (N : List Str) (vs : List V) : St := vs.map some ++ List.replicate (N.length - vs.length) none

def cxOf (CX : CXT) (P : Program) (w : World) (K : PySem.W.Frag) (mg : Str → Option Value) (base : Heap) (N : List Str) (qual : Str) (scope : Scope) (f : Addr) (cd : Value) (A : Around) (outer : List Env) (s : Shared) (H : Hp) (E : XK) : Cx where
  prog := P
  w := w
  K := K
  mg := mg
  base := base
  A := A.deeper (envOfC qual scope s.heap.objs.size f cd)
  N := N
  s₀ := s
  H₀ := H
  env := envOfC qual scope s.heap.objs.size f cd
  outer := outer
  stack := envOfC qual scope s.heap.objs.size f cd :: outer
  ex := []
  calm := true
  fn := fun _ => true
  pn := []
  xe := fun e s' => wpAny (model P w) (A.deeper (envOfC qual scope s.heap.objs.size f cd)) (leaving (envOfC qual scope s.heap.objs.size f cd) e) (fun _ s'' => CX outer H s E e s'') (fun e' s'' => CX outer H s E e' s'') s'

theorem cell_has {sc : Scope} {n : Nat} {x : Str} (h : sc.names.lookup x = some .cell) : ∃ c, (cellsFrom n sc.names []).lookup x = some c := by
  have q := PySem.W.cellsFrom_some sc.names n [] (.inl h)
  exact Option.isSome_iff_exists.mp q

theorem inv_start {CX : CXT} {P : Program} {w : World} {K : PySem.W.Frag} {mg : Str → Option Value} {base : Heap} {N ps : List Str} {qual : Str} {scope : Scope} {f : Addr} {cd : Value} {A : Around} {outer : List Env} {s s1 : Shared} {H : Hp} {E : XK} {us : List Value} {vs : List V}
    (S : FnScope N ps scope) (hd : A.handled = none) (e0 : Env0 P w K mg base A outer s H) (hl : vs.length = ps.length) (r : Vals vs us)
    (x : InCallC s s.heap.objs.size (bindL (envOfC qual scope s.heap.objs.size f cd).kindOf (ps.zip us) fun _ => none) (cellsFrom (s.heap.objs.size + 1) scope.names []) (bindC (envOfC qual scope s.heap.objs.size f cd).kindOf (ps.zip us) fun _ => none) s1) :
    Inv (cxOf CX P w K mg base N qual scope f cd A outer s H E) [] (start N vs) H s1 := by
  have hpl : ps.length ≤ N.length := by have := congrArg List.length S.pre; rw [List.length_take] at this; omega
  obtain ⟨h1, tk, rfl, hk⟩ := x.done
  have noA : ∀ b : Addr, b ∉ (cxOf CX P w K mg base N qual scope f cd A outer s H E).ex := fun b z => absurd (show b ∈ ([] : List Addr) from z) (by simp)
  refine ⟨⟨e0.mod, S.kind, rfl, rfl, Nat.le_refl _, fun y z c h1 h2 => ?_, fun y hy => ?_, fun y c _ h => ?_, fun _ => hd, Around.frames_deeper e0.frames, .inr ⟨rfl, rfl⟩, fun b z => absurd z (noA b), e0.bs, e0.bsz, fun b _ _ => noA b, fun b z => absurd z (noA b), e0.funs, e0.frf⟩,
    rfl, e0.bare, Un.kept hk, ⟨_, x.toInCall.ns, fun i y v h1 h2 h3 => ?_⟩, fun y c h => ⟨_, x.cell y c h⟩, e0.hok.fresh (Nat.le_refl _), fun y c h => ?_, fun p hp => absurd (show p ∈ ([] : List (Addr × Obj)) from hp) (by simp), e0.hok.kept hk, ?_⟩
  · exact name_of_addr x.apart (PySem.mem_of_lookup h1) (PySem.mem_of_lookup h2)
  · have hy : scope.names.lookup y = some .cell ∨ scope.names.lookup y = some .free := hy
    rcases hy with hy | hy
    · exact cell_has hy
    · exact absurd rfl (S.nofree _ (PySem.mem_of_lookup hy))
  · exact Nat.le_of_lt (x.above y c (PySem.mem_of_lookup h))
  · have hi : i < vs.length := by
      unfold start at h2
      by_cases hi : i < vs.length
      · exact hi
      · rw [List.getElem?_append_right (by simpa using hi)] at h2
        rw [List.getElem?_replicate] at h2
        split at h2 <;> cases h2
    have ha : vs[i]? = some v := by
      unfold start at h2
      rw [List.getElem?_append_left (by simpa using hi), List.getElem?_map] at h2
      cases e : vs[i]? with
      | none => rw [e] at h2; cases h2
      | some a => rw [e] at h2; cases h2; rfl
    obtain ⟨u, hu, rv⟩ := r.get ha
    have hp : ps[i]? = some y := by
      rw [← S.pre, List.getElem?_take_of_lt (by omega)]; exact h1
    have ndP : ps.Nodup := by rw [← S.pre]; exact S.nd.sublist (List.take_sublist _ _)
    refine ⟨u, rv, ?_⟩
    rcases S.par y (List.mem_of_getElem? hp) with k | k
    · exact .inl ⟨k, bindL_get ndP hp hu k⟩
    · obtain ⟨c, e⟩ := cell_has (n := s.heap.objs.size + 1) k
      refine .inr ⟨.inl k, c, e, ?_⟩
      have q := x.cell y c e
      rw [bindC_get ndP hp hu (by show scope.names.lookup y ≠ _; rw [k]; decide)] at q
      exact q
  · exact e0.hok.fresh (Nat.le_of_lt (x.above y c (PySem.mem_of_lookup h)))
  · unfold start
    show _ = N.length
    rw [List.length_append, List.length_map, List.length_replicate]
    omega

theorem fn_of {CX : CXT} {P : Program} {w : World} {K : PySem.W.Frag} {mg : Str → Option Value} {base : Heap} {k : Nat} {f : Addr} {name qual : Str} {params : Arguments} {body : List Stmt} {scope : Scope} {dV kV doc pm cdv ct oc : Value} {an od : Option Addr}
    {osl : Array (Option Value)} {N ps : List Str} {sp : Sp} (lk : K.lookup f = some ⟨oc, od, .func (PySem.W.fnOf name qual params body scope dV kV doc pm an cdv ct), osl⟩) (hcd : PySem.W.codeIn K cdv qual = true) (S : FnScope N ps scope)
    (len : ∀ vs H Q E, sp vs H Q E → vs.length = ps.length)
    (hbody : ∀ (A : Around) (outer : List Env) (s : Shared) (H : Hp) (vs : List V) (Q : VK) (E : XK), Room k (A.deeper (envOfC qual scope s.heap.objs.size f cdv)) → sp vs H Q E →
      ∃ t, PSs (cxOf CX P w K mg base N qual scope f cdv A outer s H E) body t ∧ t { nx := fun _ H' => Q .non H', rt := Q } (start N vs) H) :
    FnOk P w K mg base CX (k + 1) f (PySem.W.fnOf name qual params body scope dV kV doc pm an cdv ct) ps sp := by
  refine ⟨len, fun A outer s H args us vs Q E hr e0 hb r hsp => ?_⟩
  have hl := len _ _ _ _ hsp
  have KX : K.In s.heap := e0.mod.kin.keeps fun b o e => (e0.bs b o e).1
  have lim : s.heap.NoLimit := e0.mod.nolimit.keeps fun b o e => (e0.bs b o e).1
  have hkind : ∀ y ∈ ps.zip us, scope.names.lookup y.1 = some .local ∨ (scope.names.lookup y.1 = some .cell ∧ ((cellsFrom (s.heap.objs.size + 1) scope.names []).lookup y.1).isSome = true) := fun ⟨n, v⟩ hy => by
    rcases S.par n (List.of_mem_zip hy).1 with q | q
    · exact .inl q
    · exact .inr ⟨q, PySem.W.cellsFrom_some _ _ _ (.inl q)⟩
  refine codeAny_call_function hr.depth (KX _ _ lk) rfl S.co S.gen rfl (PySem.W.codeRec_of KX hcd) (hb _ _ _ _ ?_)
  refine wpAny_newFunctionEnv_cells S.kind hkind fun env he s1 x => ?_
  subst he
  refine ⟨lim.keeps x.toInCall.keep, codeAny_func ?_⟩
  obtain ⟨t, ht, hq⟩ := hbody A outer s H vs Q E (hr.deeper _) hsp
  have I : Inv (cxOf CX P w K mg base N qual scope f cdv A outer s H E) [] (start N vs) H s1 := inv_start S hr.hd e0 hl r x
  refine wpAny_mono (ht [] s1 (start N vs) H _ I hq) (fun fl s' hs => ?_) fun e s' hs => hs
  have fin : ∀ {σ' : St} {H' : Hp} {v : V} {u : Value}, Inv (cxOf CX P w K mg base N qual scope f cdv A outer s H E) [] σ' H' s' → RelV v u → Q v H' → CE outer P w H s Q u s' :=
    fun {σ' H' v u} J rv q => ⟨v, H', J.os, J.bare, J.base, J.hok, rv, q⟩
  cases fl with
  | ret u =>
    obtain ⟨v, σ', H', J, rv, q⟩ := hs
    exact fin J rv q
  | next =>
    obtain ⟨σ', H', J, q⟩ := hs
    exact fin (v := V.non) (u := Value.none) J rfl q
  | brk =>
    obtain ⟨_, _, _, q⟩ := hs
    exact False.elim q
  | cont =>
    obtain ⟨_, _, _, q⟩ := hs
    exact False.elim q
end L2

namespace L2
open PySem PySem.Spec PyProof.Rows
section
variable {X : Cx} {x : Str} {p pos : Pos} {e : Expr} {es : List Expr} {t : TA} {id T : String} {r : List V → Hp → VK → Prop}

def tCB (r : List V → Hp → VK → Prop) (t : TA) : TE := fun σ H Q => t σ H fun vs H1 => r vs H1 Q
theorem pe_callB (hc : CallR X (.builtin id) r) (hg : Gl X x) (hm : X.mg x = none) (hv : bootBuiltins x = some (.builtin id)) (ha : PA X (e :: es) t) (hn : x ≠ "__name__" := by decide) (hdb : (x == ("__debug__" : Str)) = false := by decide)
    (he : starEach (e :: es) X.env = (false, eval e X.env) :: starEach es X.env := by rfl) (hpl : (backTo pos (starEach es X.env)).any (·.1) = false := by rfl) : PE X (.Call (.Name x p) (e :: es) [] pos) (tCB r t) := by
  intro pins s σ H Q I h
  refine wpAny_Call_Name_kw (ld_blt I hg hm hv ?_ hn hdb)
  exact PyProof.Rows.callWith_builtin1 (thn (ha pos pins s σ H _ I h) fun us s1 zq => zq.elim fun vs H1 I1 r1 q1 => hc pins s1 σ H1 vs us Q I1 r1 q1) he hpl
theorem pe_callTy (hc : CallR X (.type T) r) (hg : Gl X x) (hm : X.mg x = none) (hv : bootBuiltins x = some (.type T)) (ha : PA X (e :: es) t) (hn : x ≠ "__name__" := by decide) (hdb : (x == ("__debug__" : Str)) = false := by decide)
    (he : starEach (e :: es) X.env = (false, eval e X.env) :: starEach es X.env := by rfl) (hpl : (backTo pos (starEach es X.env)).any (·.1) = false := by rfl) : PE X (.Call (.Name x p) (e :: es) [] pos) (tCB r t) := by
  intro pins s σ H Q I h
  refine wpAny_Call_Name_kw (ld_blt I hg hm hv ?_ hn hdb)
  exact PyProof.Rows.callWith_type1 (thn (ha pos pins s σ H _ I h) fun us s1 zq => zq.elim fun vs H1 I1 r1 q1 => hc pins s1 σ H1 vs us Q I1 r1 q1) he hpl
end
end L2

namespace HT
open PySem PyProof.Rows

def lexLt : List Int → List Int → Bool
  | [], [] => false
  | [], _ :: _ => true
  | _ :: _, [] => false
  | x :: xs, y :: ys => if x = y then lexLt xs ys else decide (x < y)
section
open PySem.SeqAt
open PySem.AutoSeq1 (wpAny_loadPart')
open PySem.MeetsSeq PySem.MeetsSeq2 PySem.MeetsSeq3

end

section
variable {prog : Program} {w : World} {A : Around} {E : Value → Shared → Prop} {s : Shared}

def sIx (n d : Nat) : Option Int → Nat
  | none => d
  | some v => if v < 0 then (v + (n : Int)).toNat else min v.toNat n
theorem sIx_none (n d : Nat) : sIx n d none = d := rfl
end
end HT

namespace L2
open PySem PySem.Spec PyProof.Rows

abbrev TO := St → Hp → (Option Int → Hp → Prop) → Prop
def PO (X : Cx) (e : Option Expr) (t : TO) : Prop :=
  ∀ (pins : List (Addr × Obj)) (s : Shared) (σ : St) (H : Hp) (Q : Option Int → Hp → Prop), Inv X pins σ H s → t σ H Q →
    wpAny (model X.prog X.w) X.A (evalPart e X.env) (fun u s' => ∃ o H', Inv X pins σ H' s' ∧ IsPart u o ∧ Q o H') X.xe s
def tNoPart : TO := fun _ H Q => Q none H
def tPart (t : TE) : TO := fun σ H Q => t σ H fun x H1 => PtQ x H1 Q

section
variable {X : Cx} {e : Expr} {te : TE} {lo hi : Option Expr} {tl th : TO} {pos p2 : Pos}

theorem po_none : PO X none tNoPart := by
  intro pins s σ H Q I h
  rw [evalPart_none]
  exact wpAny_pure ⟨none, H, I, .none, h⟩
theorem po_some (h : PE X e te) : PO X (some e) (tPart te) := by
  intro pins s σ H Q I hw
  rw [evalPart_some]
  refine thn (h pins s σ H _ I hw) fun u s1 zq => zq.elim fun x H1 I1 r1 q1 => ?_
  obtain ⟨i, rfl, q⟩ := q1
  obtain ⟨t, rfl⟩ := r1
  exact ⟨some i, H1, I1, .int i t, q⟩

def SlR (X : Cx) (r : V → Option Int → Option Int → Hp → VK → Prop) : Prop :=
  ∀ (pins : List (Addr × Obj)) (s : Shared) (σ : St) (H : Hp) (x : V) (v vl vu : Value) (lo hi : Option Int) (sl : Addr) (Q : VK), Inv X pins σ H s → RelV x v → s.heap.IsSliceOf sl vl vu .none → IsPart vl lo → IsPart vu hi → r x lo hi H Q →
    ∃ T id, typeLookup (.type T) "__getitem__" = pure (some (.builtin id)) ∧ s.TypeIs v T ∧ wpAny (model X.prog X.w) X.A (getItem v (.ref sl)) (EP X pins σ Q) X.xe s
def tSl (r : V → Option Int → Option Int → Hp → VK → Prop) (te : TE) (tl th : TO) : TE := fun σ H Q => te σ H fun x H1 => tl σ H1 fun l H2 => th σ H2 fun u H3 => r x l u H3 Q
theorem pe_slice {r : V → Option Int → Option Int → Hp → VK → Prop} (hr : SlR X r) (he : PE X e te) (hl : PO X lo tl) (hu : PO X hi th) : PE X (.Subscript e (.Slice lo hi none p2) pos) (tSl r te tl th) := by
  intro pins s σ H Q I h
  refine Subscript_ (thn (he pins s σ H _ I h) fun v s1 zq => zq.elim fun x H1 I1 r1 q1 => ?_)
  refine wpAny_Slice (thn (hl pins s1 σ H1 _ I1 q1) fun vl s2 ⟨l, H2, I2, pl, q2⟩ => thn (hu pins s2 σ H2 _ I2 q2) fun vu s3 ⟨u, H3, I3, pu, q3⟩ => ?_)
  rw [evalPart_none]
  refine wpAny_pure ?_
  have I4 : Inv X pins σ H3 { s3 with heap := s3.heap.push { cls := .type "slice", data := .fields #[vl, vu, .none] } } := I3.kept (t' := s3.toks) fun b ob q => Heap.get?_push_of_some _ q
  obtain ⟨T, id, hT, ht, hg⟩ := hr pins { s3 with heap := s3.heap.push { cls := .type "slice", data := .fields #[vl, vu, .none] } } σ H3 x v vl vu l u s3.heap.objs.size Q I4 r1 (Heap.IsSliceOf.new ..) pl pu q3
  show wpAny (model X.prog X.w) X.A (subscriptTail e (.Slice lo hi none p2) v (.ref s3.heap.objs.size)) (EP X pins σ Q) X.xe { s3 with heap := s3.heap.push { cls := .type "slice", data := .fields #[vl, vu, .none] } }
  exact tail_any (ops := [.ref s3.heap.objs.size, v]) ht hT hg (by with_unfolding_all rfl)

def cutV (xs : List V) (lo hi : Option Int) : List V := (xs.drop (HT.sIx xs.length 0 lo)).take (HT.sIx xs.length xs.length hi - HT.sIx xs.length 0 lo)
theorem cutV_length (xs : List V) (lo hi : Option Int) : (cutV xs lo hi).length ≤ xs.length := by
  unfold cutV
  rw [List.length_take, List.length_drop]
  omega
inductive rSlTI (K : PySem.W.Frag) (x : V) (lo : Option Int) (hi : Option Int) (H : Hp) (Q : VK) : Prop
  | mk (a : _) (xs : _) (x0 : x = .ref a) (x1 : SqT K H a xs) (x2 : ¬ (HT.sIx xs.length 0 lo = 0 ∧ HT.sIx xs.length xs.length hi = xs.length)) (x3 : ∀ p, H p = none → Q (.ref p) (upd H p (.tup (cutV xs lo hi)))) : rSlTI K x lo hi H Q
inductive rLtTI (K : PySem.W.Frag) (x : V) (y : V) (H : Hp) (Q : VK) : Prop
  | mk (a : _) (b : _) (ns : _) (ms : _) (x0 : x = .ref a) (x1 : y = .ref b) (x2 : SqT K H a (ns.map V.int)) (x3 : SqT K H b (ms.map V.int)) (x4 : Q (.bl (HT.lexLt ns ms)) H) : rLtTI K x y H Q
inductive rCatTI (K : PySem.W.Frag) (x : V) (y : V) (H : Hp) (Q : VK) : Prop
  | mk (a : _) (b : _) (xs : _) (ys : _) (x0 : x = .ref a) (x1 : y = .ref b) (x2 : SqT K H a xs) (x3 : SqT K H b ys) (x4 : xs ≠ []) (x5 : xs.length + ys.length ≤ sizeLine) (x6 : (ys = [] → Q (.ref a) H)) (x7 : (ys ≠ [] → ∀ p, H p = none → Q (.ref p) (upd H p (.tup (xs ++ ys))))) : rCatTI K x y H Q
inductive r_call_tupleTI (K : PySem.W.Frag) (xs : List V) (H : Hp) (Q : VK) : Prop
  | mk (a : _) (ys : _) (h0_ : xs = [.ref a]) (h1_ : SqT K H a ys) (h2_ : Q (.ref a) H) : r_call_tupleTI K xs H Q
end
end L2

namespace L2
open PySem PySem.Spec PyProof.Rows

def ixN (n : Nat) (i : Int) : Option Nat := if 0 ≤ i then (if i < n then some i.toNat else none) else if -(n : Int) ≤ i then some (i + n).toNat else none
def atI {α : Type} (xs : List α) (i : Int) : Option α := (ixN xs.length i).bind fun j => xs[j]?
theorem ixN_seq {n : Nat} {i : Int} {j : Nat} (h : ixN n i = some j) : seqIndex? i n = some j ∧ j < n ∧ -(n : Int) ≤ i ∧ i < n := by
  unfold ixN at h
  by_cases h0 : 0 ≤ i
  · rw [if_pos h0] at h
    by_cases h1 : i < n
    · rw [if_pos h1] at h
      have e : i.toNat = j := Option.some.inj h
      exact ⟨by rw [seqIndex_of h0 h1, e], by omega, by omega, h1⟩
    · rw [if_neg h1] at h; cases h
  · rw [if_neg h0] at h
    by_cases h1 : -(n : Int) ≤ i
    · rw [if_pos h1] at h
      have e : (i + n).toNat = j := Option.some.inj h
      exact ⟨by rw [seqIndex_neg (by omega) h1, e], by omega, h1, by omega⟩
    · rw [if_neg h1] at h; cases h
theorem atI_get {α : Type} {xs : List α} {i : Int} {v : α} (h : atI xs i = some v) : ∃ j, seqIndex? i xs.length = some j ∧ xs[j]? = some v ∧ j < xs.length ∧ -(xs.length : Int) ≤ i ∧ i < xs.length := by
  unfold atI at h
  cases e : ixN xs.length i with
  | none => rw [e] at h; cases h
  | some j =>
    rw [e] at h
    obtain ⟨h1, h2, h3, h4⟩ := ixN_seq e
    exact ⟨j, h1, h, h2, h3, h4⟩
theorem atI_nat {α : Type} {xs : List α} {j : Nat} {v : α} (h : xs[j]? = some v) : atI xs (j : Int) = some v := by
  have hj : j < xs.length := (List.getElem?_eq_some_iff.mp h).1
  have e : ixN xs.length (j : Int) = some j := by
    unfold ixN
    rw [if_pos (by omega), if_pos (by omega)]; simp
  unfold atI; rw [e]; exact h
def PlainIx (b : Expr) : Prop := ∀ o i, subscripted b false o i = operate [o, i] (getItem o i)
def IxR (X : Cx) (r : R2) : Prop :=
  ∀ (value slice : Expr) (pins : List (Addr × Obj)) (s : Shared) (σ : St) (H : Hp) (x y : V) (v u : Value) (Q : VK), Inv X pins σ H s → RelV x v → RelV y u → r x y H Q →
    subscripted slice false v u = operate [v, u] (getItem v u) → wpAny (model X.prog X.w) X.A (subscriptTail value slice v u) (EP X pins σ Q) X.xe s
def MtR (X : Cx) (id : String) (r : V → List V → Hp → VK → Prop) : Prop :=
  ∀ (pins : List (Addr × Obj)) (s : Shared) (σ : St) (H : Hp) (x : V) (xs : List V) (v : Value) (us : List Value) (Q : VK), Inv X pins σ H s → RelV x v → Vals xs us → r x xs H Q →
    wpAny (model X.prog X.w) X.A (call (.builtin id) (v :: us)) (EP X pins σ Q) X.xe s
section
variable {X : Cx} {a b : Expr} {ta tb : TE} {pos : Pos}
theorem pe_ix {r : R2} (hr : IxR X r) (ha : PE X a ta) (hb : PE X b tb) (hs : PlainIx b) : PE X (.Subscript a b pos) (tOp r ta tb) := by
  intro pins s σ H Q I h
  exact Subscript_ (binT ha hb I h fun v u s2 x y H2 I2 rx ry q => hr a b pins s2 σ H2 x y v u Q I2 rx ry q (hs _ _))

inductive rIxLI (K : PySem.W.Frag) (x : V) (y : V) (H : Hp) (Q : VK) : Prop
  | mk (p : _) (xs : _) (i : _) (v : _) (x0 : x = .ref p) (x1 : y = .int i) (x2 : SqL K H p xs) (x3 : atI xs i = some v) (x4 : Q v H) : rIxLI K x y H Q
def rIxL (K : PySem.W.Frag) : R2 := fun x y H Q => rIxLI K x y H Q
inductive rIxTI (K : PySem.W.Frag) (x : V) (y : V) (H : Hp) (Q : VK) : Prop
  | mk (p : _) (xs : _) (i : _) (v : _) (x0 : x = .ref p) (x1 : y = .int i) (x2 : SqT K H p xs) (x3 : atI xs i = some v) (x4 : Q v H) : rIxTI K x y H Q
def rIxT (K : PySem.W.Frag) : R2 := fun x y H Q => rIxTI K x y H Q
inductive rIxSI (x : V) (y : V) (H : Hp) (Q : VK) : Prop
  | mk (z : _) (i : _) (c : _) (x0 : x = .str z) (x1 : y = .int i) (x2 : z.length ≤ sizeLine) (x3 : atI z.cps.toList i = some c) (x4 : Q (.str ⟨#[c]⟩) H) : rIxSI  x y H Q
def rIxS : R2 := fun x y H Q => rIxSI  x y H Q
theorem ix_list : IxR X (rIxL X.K) := by
  intro value slice pins s σ H x y v u Q I rx ry h hs
  obtain ⟨p, xs, i, z, rfl, rfl, hq, he, q⟩ := h
  cases rx
  obtain ⟨t, rfl⟩ := ry
  obtain ⟨its, r, pl, hz⟩ := I.list hq
  obtain ⟨j, h1, h2, h3, h4, h5⟩ := atI_get he
  obtain ⟨w, ew, rw'⟩ := r.get h2
  have hl := r.length
  have hn := line63
  have fin : EP X pins σ Q w s := ⟨z, H, I, rw', q⟩
  by_cases h0 : 0 ≤ i
  · have hj : i.toNat = j := by
      rw [seqIndex_of h0 h5] at h1
      exact Option.some.inj h1
    exact item_listR pl.isList h0 (by omega) (by rw [hj]; simpa using ew) fin hs
  · have hj : (i + (its.toArray.size : Int)).toNat = j := by
      rw [seqIndex_neg (by omega) h4] at h1
      rw [List.size_toArray, ← hl]
      exact Option.some.inj h1
    exact subscriptTail_builtinR (x := w) pl.isList.typeIs slot_list_getitem.lookup
      (wpAny_getItem_list_neg (Q := fun r s' => r = w ∧ EP X pins σ Q r s') pl.isList (by omega) (by rw [List.size_toArray] <;> omega) (by omega) (by rw [hj]; simpa using ew) ⟨rfl, fin⟩) hs
theorem ix_tup : IxR X (rIxT X.K) := by
  intro value slice pins s σ H x y v u Q I rx ry h hs
  obtain ⟨p, xs, i, z, rfl, rfl, hq, he, q⟩ := h
  cases rx
  obtain ⟨t, rfl⟩ := ry
  obtain ⟨its, r, pl, hz⟩ := I.tuple hq
  obtain ⟨j, h1, h2, h3, h4, h5⟩ := atI_get he
  obtain ⟨w, ew, rw'⟩ := r.get h2
  have hl := r.length
  have hn := line63
  have fin : EP X pins σ Q w s := ⟨z, H, I, rw', q⟩
  exact subscriptTail_builtinR (x := w) pl.typeIs slot_tuple_getitem.lookup
    (getItem_tuple (j := j) (Q := fun r s' => r = w ∧ EP X pins σ Q r s') pl (by omega) (by omega) (by rw [List.size_toArray, ← hl]; exact h1) (by simpa using ew) ⟨rfl, fin⟩) hs
theorem ix_str : IxR X rIxS := by
  intro value slice pins s σ H x y v u Q I rx ry h hs
  obtain ⟨z, i, c, rfl, rfl, hz, he, q⟩ := h
  obtain ⟨t, rfl⟩ := rx
  obtain ⟨t', rfl⟩ := ry
  obtain ⟨j, h1, h2, h3, h4, h5⟩ := atI_get he
  have hl : z.cps.toList.length = z.length := by simp [Str.length]
  rw [hl] at h1 h4 h5
  have hn := line63
  exact tail_any (typeIs_str s z t) slot_str_getitem.lookup (getItem_str (c := c) (by
    have e1 : decide (i < -(2 ^ 63 : Int)) = false := decide_eq_false (by omega)
    have e2 : decide (i ≥ 2 ^ 63) = false := decide_eq_false (by omega)
    rw [e1, e2, Bool.or_false]) (by rw [h1]; simpa using h2) ⟨.str ⟨#[c]⟩, H, I.tok _, ⟨_, rfl⟩, q⟩) hs
theorem mapSeq_set (its : List Value) (n j : Nat) (u : Value) : Obj.mapSeq (·.setIfInBounds j u) { cls := .type "list", data := .seq its.toArray n } = { cls := .type "list", data := .seq (its.set j u).toArray n } := by
  simp [Obj.mapSeq]
theorem Inv.lst {pins : List (Addr × Obj)} {σ : St} {H : Hp} {s : Shared} {p : Addr} {xs : List V} (I : Inv X pins σ H s) (h : H p = some (.lst xs)) :
    ∃ (its : List Value) (n : Nat), Vals xs its ∧ s.heap.get? p = some { cls := .type "list", data := .seq its.toArray n } ∧ xs.length ≤ sizeLine := by
  obtain ⟨z, its, n, r, e⟩ := I.hok p _ h
  exact ⟨its, n, r, e, z⟩
theorem Inv.lstUpd {pins : List (Addr × Obj)} {σ : St} {H : Hp} {s : Shared} {p : Addr} {xs ys : List V} {its its' : List Value} {n n' : Nat} {f : Obj → Obj} (I : Inv X pins σ H s) (h : H p = some (.lst xs))
    (ho : s.heap.get? p = some { cls := .type "list", data := .seq its.toArray n }) (hf : f { cls := .type "list", data := .seq its.toArray n } = { cls := .type "list", data := .seq its'.toArray n' }) (r : Vals ys its') (hz : ys.length ≤ sizeLine) (t : Nat) :
    Inv X pins σ (upd H p (.lst ys)) { s with heap := s.heap.update p f, toks := t } := by
  have e : (s.heap.update p f).get? p = some { cls := .type "list", data := .seq its'.toArray n' } := by
    rw [Heap.get?_update_self f ho (by rw [hf] <;> rfl), hf]
  refine I.write (x := p) (e := p) (by rw [h]; trivial) (.inl rfl) (fun b u hb q => (Heap.get?_update_other _ _ (Ne.symm hb)).trans q) ⟨_, e⟩ ?_
  exact ⟨hz, its', n', r, e⟩
inductive rSetLI (o : V) (i : V) (v : V) (H : Hp) (Q : (Hp → Prop)) : Prop
  | mk (p : _) (xs : _) (k : _) (j : _) (x0 : o = .ref p) (x1 : i = .int k) (x2 : H p = some (.lst xs)) (x3 : ixN xs.length k = some j) (x4 : Q (upd H p (.lst (xs.set j v)))) : rSetLI  o i v H Q
def rSetL : V → V → V → Hp → (Hp → Prop) → Prop := fun o i v H Q => rSetLI  o i v H Q
theorem set_list : PSet X rSetL := by
  intro pins s σ H o i v ov iv u Q I ro ri rv h
  obtain ⟨p, xs, k, j, rfl, rfl, hp, hj, q⟩ := h
  cases ro
  obtain ⟨t, rfl⟩ := ri
  obtain ⟨its, n, r, ho, hz⟩ := I.lst hp
  obtain ⟨h1, h2, h3, h4⟩ := ixN_seq hj
  have hl := r.length
  have hn := line63
  have I' : Inv X pins σ (upd H p (.lst (xs.set j v))) { s with heap := s.heap.update p (Obj.mapSeq (·.setIfInBounds j u)) } :=
    I.lstUpd hp ho (mapSeq_set its n j u) (r.set rv j) (by rw [List.length_set]; exact hz) s.toks
  by_cases h0 : 0 ≤ k
  · have hk : k.toNat = j := by
      rw [seqIndex_of h0 h4] at h1
      exact Option.some.inj h1
    exact PySem.W.ki_setAt ho h0 (by omega) (by rw [List.size_toArray, ← hl]; exact h4) (by rw [hk]; exact ⟨_, I', q⟩)
  · have hk : (k + (its.toArray.size : Int)).toNat = j := by
      rw [seqIndex_neg (by omega) h3] at h1
      rw [List.size_toArray, ← hl]
      exact Option.some.inj h1
    exact PySem.W.ki_setBack ho (by omega) (by rw [List.size_toArray, ← hl]; exact h3) (by omega) (by rw [hk]; exact ⟨_, I', q⟩)

theorem slice_bounds (lo hi : Option Int) (n : Nat) : (sliceBounds lo hi none n).1 = ((HT.sIx n 0 lo : Nat) : Int) ∧ (sliceBounds lo hi none n).2.1 = ((HT.sIx n n hi : Nat) : Int) ∧ (sliceBounds lo hi none n).2.2 = 1 := by
  refine ⟨?_, ?_, rfl⟩
  · cases lo with
    | none => simp [sliceBounds, HT.sIx]
    | some i =>
      simp only [sliceBounds, HT.sIx, Option.getD_none, show (1 : Int) > 0 by decide, if_true]
      by_cases h : i < 0
      · simp only [h, if_true] <;> omega
      · simp only [h, if_false] <;> omega
  · cases hi with
    | none => simp [sliceBounds, HT.sIx]
    | some i =>
      simp only [sliceBounds, HT.sIx, Option.getD_none, show (1 : Int) > 0 by decide, if_true]
      by_cases h : i < 0
      · simp only [h, if_true] <;> omega
      · simp only [h, if_false] <;> omega
theorem slicePick_cut (its : List Value) (lo hi : Option Int) : slicePick its.toArray lo hi none = ((its.drop (HT.sIx its.length 0 lo)).take (HT.sIx its.length its.length hi - HT.sIx its.length 0 lo)).toArray := by
  obtain ⟨h1, h2, h3⟩ := slice_bounds lo hi its.toArray.size
  unfold slicePick
  rw [h1, h2, h3]
  simp only [sliceRange_one, pick_run, List.size_toArray] <;> rfl
inductive rSlLI (K : PySem.W.Frag) (x : V) (lo : Option Int) (hi : Option Int) (H : Hp) (Q : VK) : Prop
  | mk (a : _) (xs : _) (x0 : x = .ref a) (x1 : SqL K H a xs) (x2 : ∀ p, H p = none → Q (.ref p) (upd H p (.lst (cutV xs lo hi)))) : rSlLI K x lo hi H Q
def rSlL (K : PySem.W.Frag) : V → Option Int → Option Int → Hp → VK → Prop := fun x lo hi H Q => rSlLI K x lo hi H Q
theorem sl_list : SlR X (rSlL X.K) := by
  intro pins s σ H x v vl vu lo hi sl Q I rx hs pl pu h
  obtain ⟨a, xs, rfl, hx, q⟩ := h
  cases rx
  obtain ⟨its, r, ht, hz⟩ := I.list hx
  have hlen := r.length
  refine ⟨"list", _, slot_list_getitem.lookup, ht.isList.typeIs, ?_⟩
  refine wpAny_getItem_list_slice ht.isList hs pl pu .none (by simp) ?_ (by rw [List.size_toArray] <;> omega)
  rw [slicePick_cut, ← hlen]
  refine ⟨.ref s.heap.objs.size, _, I.laid (t' := s.toks) (o := .lst (cutV xs lo hi)) (fun b ob q => Heap.get?_push_of_some _ q) (Nat.le_refl _) ?_, rfl, q _ (I.hok.fresh (Nat.le_refl _))⟩
  exact ⟨Nat.le_trans (cutV_length xs lo hi) hz, _, 0, (r.drop (HT.sIx xs.length 0 lo)).take (HT.sIx xs.length xs.length hi - HT.sIx xs.length 0 lo), Heap.get?_push_size _ rfl⟩

def flatV : V → Bool
  | .non => true
  | .bl _ => true
  | .int _ => true
  | .str _ => true
  | _ => false
def eqV : V → V → Bool
  | .non, .non => true
  | .bl a, .bl b => a == b
  | .bl a, .int b => (if a then 1 else 0) == b
  | .int a, .bl b => a == (if b then 1 else 0)
  | .int a, .int b => a == b
  | .str a, .str b => a == b
  | _, _ => false
theorem eqAt_V {A : Around} {s : Shared} {y x : V} {u v : Value} (ry : RelV y u) (rx : RelV x v) (fy : flatV y = true) (fx : flatV x = true) : SeqAt.EqAt A s u v (eqV y x) := by
  cases y with
  | non =>
    cases ry
    cases x with
    | non => cases rx; exact SeqAt.EqAt.same _
    | bl b => cases rx; exact SeqAt.EqAt.none_bool b
    | int b => obtain ⟨t, rfl⟩ := rx; exact SeqAt.EqAt.none_int b t
    | str b => obtain ⟨t, rfl⟩ := rx; exact SeqAt.EqAt.none_str b t
    | _ => exact absurd (show false = true from fx) Bool.false_ne_true
  | bl a =>
    cases ry
    cases x with
    | non => cases rx; exact SeqAt.EqAt.bool_none a
    | bl b => cases rx; exact SeqAt.EqAt.bool_bool a b
    | int b => obtain ⟨t, rfl⟩ := rx; exact SeqAt.EqAt.bool_int a b t
    | str b => obtain ⟨t, rfl⟩ := rx; exact SeqAt.EqAt.bool_str a b t
    | _ => exact absurd (show false = true from fx) Bool.false_ne_true
  | int a =>
    obtain ⟨t', rfl⟩ := ry
    cases x with
    | non => cases rx; exact SeqAt.EqAt.int_none a t'
    | bl b => cases rx; exact SeqAt.EqAt.int_bool a t' b
    | int b => obtain ⟨t, rfl⟩ := rx; exact SeqAt.EqAt.int_int a t' b t
    | str b => obtain ⟨t, rfl⟩ := rx; exact SeqAt.EqAt.int_str a t' b t
    | _ => exact absurd (show false = true from fx) Bool.false_ne_true
  | str a =>
    obtain ⟨t', rfl⟩ := ry
    cases x with
    | non => cases rx; exact SeqAt.EqAt.str_none a t'
    | bl b => cases rx; exact SeqAt.EqAt.str_bool a t' b
    | int b => obtain ⟨t, rfl⟩ := rx; exact SeqAt.EqAt.str_int a t' b t
    | str b => obtain ⟨t, rfl⟩ := rx; exact SeqAt.EqAt.str_str a t' b t
    | _ => exact absurd (show false = true from fx) Bool.false_ne_true
  | _ => exact absurd (show false = true from fy) Bool.false_ne_true
def eqU (x : V) (u : Value) : Bool := match u with
  | .none => eqV .non x
  | .bool b => eqV (.bl b) x
  | .int i _ => eqV (.int i) x
  | .str z _ => eqV (.str z) x
  | _ => false
theorem eqU_of {x y : V} {u : Value} (r : RelV y u) (f : flatV y = true) : eqU x u = eqV y x := by
  cases y with
  | non => cases r; rfl
  | bl b => cases r; rfl
  | int i => obtain ⟨t, rfl⟩ := r; rfl
  | str z => obtain ⟨t, rfl⟩ := r; rfl
  | _ => exact absurd (show false = true from f) Bool.false_ne_true
theorem any_eqU {x : V} : ∀ {xs : List V} {us : List Value}, Vals xs us → xs.all flatV = true → us.any (eqU x) = xs.any fun y => eqV y x
  | _, _, .nil, _ => rfl
  | y :: xs, u :: us, .cons r t, f => by
    rw [List.all_cons, Bool.and_eq_true] at f
    rw [List.any_cons, List.any_cons, eqU_of r f.1, any_eqU t f.2]
theorem mem_eqAt {A : Around} {s : Shared} {x : V} {v : Value} (rx : RelV x v) (fx : flatV x = true) : ∀ {xs : List V} {us : List Value}, Vals xs us → xs.all flatV = true → ∀ u ∈ us, SeqAt.EqAt A s u v (eqU x u)
  | _, _, .nil, _ => fun u hu => by cases hu
  | y :: xs, u :: us, .cons r t, f => fun u' hu => by
    rw [List.all_cons, Bool.and_eq_true] at f
    rcases List.mem_cons.mp hu with rfl | hu
    · rw [eqU_of r f.1]; exact eqAt_V r rx f.1 fx
    · exact mem_eqAt rx fx t f.2 u' hu
def inV (x : V) (xs : List V) : Bool := xs.any fun y => eqV y x
inductive rInI (K : PySem.W.Frag) (neg : Bool) (x : V) (y : V) (H : Hp) (Q : VK) : Prop
  | mk (p : _) (xs : _) (x0 : y = .ref p) (x1 : (SqL K H p xs ∨ SqT K H p xs)) (x2 : flatV x = true) (x3 : xs.all flatV = true) (x4 : Q (.bl (if neg then !inV x xs else inV x xs)) H) : rInI K neg x y H Q
def rIn (K : PySem.W.Frag) (neg : Bool) : R2 := fun x y H Q => rInI K neg x y H Q
theorem op_in_seq : OpR X (compareOp .In) (rIn X.K false) := by
  intro pins s σ H x y v u Q I rx ry h
  obtain ⟨p, xs, rfl, hq, fx, fs, q⟩ := h
  cases ry
  rcases hq with hq | hq
  · obtain ⟨its, r, pl, hz⟩ := I.list hq
    refine SeqAt.in_listAt (eqU x) pl.isList (fun w hw => mem_eqAt rx fx r fs w (by simpa using hw)) ⟨.bl _, H, I, rfl, ?_⟩
    rw [show its.toArray.any (eqU x) = its.any (eqU x) by simp, any_eqU r fs]
    exact q
  · obtain ⟨its, r, pl, hz⟩ := I.tuple hq
    refine SeqAt.in_tupleAt (eqU x) pl (fun w hw => mem_eqAt rx fx r fs w (by simpa using hw)) ⟨.bl _, H, I, rfl, ?_⟩
    rw [show its.toArray.any (eqU x) = its.any (eqU x) by simp, any_eqU r fs]
    exact q
theorem op_notIn_seq : OpR X (compareOp .NotIn) (rIn X.K true) := by
  intro pins s σ H x y v u Q I rx ry h
  obtain ⟨p, xs, rfl, hq, fx, fs, q⟩ := h
  cases ry
  rcases hq with hq | hq
  · obtain ⟨its, r, pl, hz⟩ := I.list hq
    refine SeqAt.notIn_listAt (eqU x) pl.isList (fun w hw => mem_eqAt rx fx r fs w (by simpa using hw)) ⟨.bl _, H, I, rfl, ?_⟩
    rw [show its.toArray.any (eqU x) = its.any (eqU x) by simp, any_eqU r fs]
    exact q
  · obtain ⟨its, r, pl, hz⟩ := I.tuple hq
    refine SeqAt.notIn_tupleAt (eqU x) pl (fun w hw => mem_eqAt rx fx r fs w (by simpa using hw)) ⟨.bl _, H, I, rfl, ?_⟩
    rw [show its.toArray.any (eqU x) = its.any (eqU x) by simp, any_eqU r fs]
    exact q
inductive r_op_notIn_strI (x : V) (y : V) (H : Hp) (Q : VK) : Prop
  | mk (i : _) (j : _) (h0_ : x = .str i) (h1_ : y = .str j) (h2_ : Q (.bl (!(!(Builtin.Str.occurrences j i 0 j.length 1).isEmpty))) H) : r_op_notIn_strI x y H Q
inductive r_call_len_seqI (K : PySem.W.Frag) (xs : List V) (H : Hp) (Q : VK) : Prop
  | mk (p : _) (ys : _) (h0_ : xs = [.ref p]) (h1_ : (SqL K H p ys ∨ SqT K H p ys)) (h2_ : Q (.int ys.length) H) : r_call_len_seqI K xs H Q
def r_call_len_seq (K : PySem.W.Frag) : List V → Hp → VK → Prop := fun xs H Q => r_call_len_seqI K xs H Q
theorem call_len_seq : CallR X (.builtin "len") (r_call_len_seq X.K) := by
  intro pins s σ H xs us Q I r h
  obtain ⟨p, ys, rfl, hq, q⟩ := h
  obtain ⟨u, rfl, rx⟩ := vals1 r
  cases rx
  have hn := line63
  rcases hq with hq | hq
  · obtain ⟨its, r', pl, hz⟩ := I.list hq
    have hlen := r'.length
    exact Calls.call_len_list pl.isList (by simp only [List.size_toArray] <;> omega) ⟨.int ys.length, H, I.tok _, ⟨s.toks + 1, by rw [List.size_toArray, hlen]⟩, q⟩
  · obtain ⟨its, r', pl, hz⟩ := I.tuple hq
    have hlen := r'.length
    exact len_tuple pl (by simp only [List.size_toArray] <;> omega) ⟨.int ys.length, H, I.tok _, ⟨s.toks + 1, by rw [List.size_toArray, hlen]⟩, q⟩
inductive r_call_len_strI (xs : List V) (H : Hp) (Q : VK) : Prop
  | mk (z : _) (h0_ : xs = [.str z]) (h1_ : z.length ≤ sizeLine) (h2_ : Q (.int z.length) H) : r_call_len_strI xs H Q
inductive r_call_list_ofI (K : PySem.W.Frag) (xs : List V) (H : Hp) (Q : VK) : Prop
  | mk (p : _) (ys : _) (h0_ : xs = [.ref p]) (h1_ : (SqL K H p ys ∨ SqT K H p ys)) (h2_ : ∀ l, H l = none → Q (.ref l) (upd H l (.lst ys))) : r_call_list_ofI K xs H Q
def r_call_list_of (K : PySem.W.Frag) : List V → Hp → VK → Prop := fun xs H Q => r_call_list_ofI K xs H Q
theorem call_list_of : CallR X (.type "list") (r_call_list_of X.K) := by
  intro pins s σ H xs us Q I r h
  obtain ⟨p, ys, rfl, hq, q⟩ := h
  obtain ⟨u, rfl, rx⟩ := vals1 r
  cases rx
  have fin : ∀ (its : List Value), Vals ys its → ys.length ≤ sizeLine → ∀ (h' : Heap) (c' : Nat), (∀ b o', s.heap.get? b = some o' → h'.get? b = some o') →
      h'.get? s.heap.objs.size = some { cls := .type "list", dict := none, data := .seq its.toArray c', slots := #[] } → EP X pins σ Q (.ref s.heap.objs.size) { s with heap := h' } := fun its r' hz h' c' kp e =>
    ⟨.ref s.heap.objs.size, _, I.laid (t' := s.toks) kp (Nat.le_refl _) (show ObjOk X.prog X.w _ h' _ (.lst ys) from ⟨hz, its, c', r', e⟩), rfl, q _ (I.hok.fresh (Nat.le_refl _))⟩
  rcases hq with hq | hq
  · obtain ⟨its, r', pl, hz⟩ := I.list hq
    have hlen := r'.length
    obtain ⟨o, ho, hc, n, hd⟩ := pl.isList
    exact call_list_seq p (.inl rfl) ho hc hd (fun h' c' kp e => fin its r' hz h' c' kp e) (by simp only [List.size_toArray] <;> omega)
  · obtain ⟨its, r', pl, hz⟩ := I.tuple hq
    have hlen := r'.length
    obtain ⟨o, ho, hc, n, hd⟩ := pl
    exact call_list_seq p (.inr rfl) ho hc hd (fun h' c' kp e => fin its r' hz h' c' kp e) (by simp only [List.size_toArray] <;> omega)
inductive r_call_tuple_ofI (K : PySem.W.Frag) (xs : List V) (H : Hp) (Q : VK) : Prop
  | mk (p : _) (ys : _) (h0_ : xs = [.ref p]) (h1_ : ((SqL K H p ys ∧ ∀ l, H l = none → Q (.ref l) (upd H l (.tup ys))) ∨ (SqT K H p ys ∧ Q (.ref p) H))) : r_call_tuple_ofI K xs H Q
def r_call_tuple_of (K : PySem.W.Frag) : List V → Hp → VK → Prop := fun xs H Q => r_call_tuple_ofI K xs H Q
theorem call_tuple_of : CallR X (.type "tuple") (r_call_tuple_of X.K) := by
  intro pins s σ H xs us Q I r h
  obtain ⟨p, ys, rfl, h⟩ := h
  obtain ⟨u, rfl, rx⟩ := vals1 r
  cases rx
  rcases h with ⟨hq, q⟩ | ⟨hq, q⟩
  · obtain ⟨its, r', pl, hz⟩ := I.list hq
    have hlen := r'.length
    refine call_tuple_list pl.isList (fun h' kp => ?_) (by simp only [List.size_toArray] <;> omega)
    have I1 : Inv X pins σ H { s with heap := h' } := I.kept (t' := s.toks) kp
    have I2 : Inv X pins σ (upd H h'.objs.size (.tup ys)) { s with heap := h'.push { cls := .type "tuple", data := .seq its.toArray } } :=
      I1.laid (t' := s.toks) (fun b o e => Heap.get?_push_of_some _ e) (Nat.le_refl _) (show ObjOk X.prog X.w _ _ _ (.tup ys) from ⟨hz, its, r', IsTup.new _ _⟩)
    exact ⟨.ref h'.objs.size, _, I2, rfl, q _ (I1.hok.fresh (Nat.le_refl _))⟩
  · obtain ⟨its, r', pl, hz⟩ := I.tuple hq
    exact call_tuple_same pl ⟨.ref p, H, I, rfl, q⟩

def tyV (K : PySem.W.Frag) (T : String) (x : V) (H : Hp) : Prop := match x with
  | .str _ => T = "str"
  | .int _ => T = "int"
  | .ref p => (T = "list" ∧ ∃ xs, SqL K H p xs) ∨ (T = "tuple" ∧ ∃ o, K.lookup p = some o ∧ o.cls = .type "tuple" ∧ o.dict = none) ∨
      (T = "dict" ∧ ((∃ kvs, H p = some (.dK kvs)) ∨ ∃ kvs, H p = some (.dT kvs))) ∨ (T = "set" ∧ ∃ S n, H p = some (.set S n))
  | _ => False
theorem tyV_is {pins : List (Addr × Obj)} {σ : St} {H : Hp} {s : Shared} {T : String} {x : V} {v : Value} (I : Inv X pins σ H s) (r : RelV x v) (ty : tyV X.K T x H) :
    s.TypeIs v T ∧ ∀ a, v = .ref a → ∃ ob, s.heap.get? a = some ob ∧ ob.dict = none := by
  cases x with
  | str z =>
    obtain ⟨t, rfl⟩ := r
    cases (show T = "str" from ty)
    exact ⟨typeIs_str s z t, fun _ e => nomatch e⟩
  | int i =>
    obtain ⟨t, rfl⟩ := r
    cases (show T = "int" from ty)
    exact ⟨typeIs_int s i t, fun _ e => nomatch e⟩
  | ref p =>
    cases r
    rcases ty with ⟨rfl, xs, hq⟩ | ⟨rfl, o, hk, hc, hd⟩ | ⟨rfl, hk⟩ | ⟨rfl, S, n, hk⟩
    · obtain ⟨its, _, pl, _⟩ := I.list hq
      refine ⟨pl.isList.typeIs, fun a e => ?_⟩
      cases e
      obtain ⟨o, n, e, c, hd, _⟩ := pl
      exact ⟨o, e, hd⟩
    · refine ⟨⟨o, I.kIn p o hk, hc⟩, fun a e => ?_⟩
      cases e
      exact ⟨o, I.kIn _ o hk, hd⟩
    · have z : ∃ o, s.heap.get? p = some o ∧ o.ExactDict := by
        rcases hk with ⟨kvs, hk⟩ | ⟨kvs, hk⟩
        · obtain ⟨_, _, _, _, o, _, _, e, ex, _⟩ := I.hok p _ hk
          exact ⟨o, e, ex⟩
        · obtain ⟨_, _, _, _, o, _, _, e, ex, _⟩ := I.hok p _ hk
          exact ⟨o, e, ex⟩
      obtain ⟨o, e, ex⟩ := z
      refine ⟨⟨o, e, ex.1⟩, fun a e2 => ?_⟩
      cases e2
      exact ⟨o, e, ex.2.1⟩
    · obtain ⟨o, _, _, _, e, ex, _⟩ := I.hok p _ hk
      refine ⟨⟨o, e, ex.1⟩, fun a e2 => ?_⟩
      cases e2
      exact ⟨o, e, ex.2.1⟩
  | _ => exact False.elim ty
def tBM0 (K : PySem.W.Frag) (T : String) (r : V → List V → Hp → VK → Prop) (to : TE) : TE := fun σ H Q => to σ H fun x H1 => tyV K T x H1 ∧ r x [] H1 Q
def tBM (K : PySem.W.Frag) (T : String) (r : V → List V → Hp → VK → Prop) (to : TE) (t : TA) : TE := fun σ H Q => to σ H fun x H1 => tyV K T x H1 ∧ t σ H1 fun xs H2 => r x xs H2 Q
variable {o e : Expr} {es : List Expr} {to : TE} {t : TA} {name : Str} {apos cpos : Pos} {T id : String} {r : V → List V → Hp → VK → Prop}
theorem pe_bm0 (pa : PlainAttrs T) (slot : Slot T name id) (hty : typeOf (.builtin id) = pure (.type "method_descriptor")) (hm : MtR X id r) (ho : PE X o to)
    (hbase : attributeBase o name X.env (eval o X.env) = eval o X.env := by rfl) (hline : (apos.endLine == cpos.line) = true := by rfl) : PE X (.Call (.Attribute o name apos) [] [] cpos) (tBM0 X.K T r to) := by
  intro pins s σ H Q I h
  refine wpAny_Call_method0_late hbase hline (thn (ho pins s σ H _ I h) fun v s1 ⟨x, H1, I1, r1, ty, q1⟩ => ?_)
  obtain ⟨h1, h2⟩ := tyV_is I1 r1 ty
  exact ⟨T, id, pa, slot, hty, h1, h2, Calls.callWith_builtin rfl (PySem.evalArgs_none (hm pins s1 σ H1 x [] v [] Q I1 r1 .nil q1))⟩
theorem pe_bm (pa : PlainAttrs T) (slot : Slot T name id) (hty : typeOf (.builtin id) = pure (.type "method_descriptor")) (hm : MtR X id r) (ho : PE X o to) (ha : PA X (e :: es) t)
    (hbase : attributeBase o name X.env (eval o X.env) = eval o X.env := by rfl)
    (hfew : ((backTo cpos (starEach (e :: es) X.env)).all (fun x => !x.1) && (backToKw cpos (keywordEach [] X.env)).all (fun x => x.1.isSome)
      && decide ((e :: es).length + ([] : List Keyword).length + (if ([] : List Keyword).isEmpty then 0 else 1) < 30)) = true := by rfl)
    (hline : (apos.endLine == cpos.line) = true := by rfl) (hs : starEach (e :: es) X.env = (false, eval e X.env) :: starEach es X.env := by rfl) (hplain : (backTo cpos (starEach es X.env)).any (·.1) = false := by rfl) :
    PE X (.Call (.Attribute o name apos) (e :: es) [] cpos) (tBM X.K T r to t) := by
  intro pins s σ H Q I h
  refine wpAny_Call_method_late hbase hfew hline rfl (thn (ho pins s σ H _ I h) fun v s1 ⟨x, H1, I1, r1, ty, q1⟩ => ?_)
  obtain ⟨h1, h2⟩ := tyV_is I1 r1 ty
  refine ⟨T, id, pa, slot, hty, h1, h2, ?_⟩
  have hA := ha cpos pins s1 σ H1 _ I1 q1
  rw [hs] at hA ⊢
  refine Calls.callWith_builtin (by show (false || (backTo cpos (starEach es X.env)).any (·.1)) = false; rw [hplain] <;> rfl) (Calls.evalArgs_plain ?_)
  exact thn hA fun us s2 zq => zq.elim fun vs H2 I2 r2 q2 => hm pins s2 σ H2 x vs v us Q I2 r1 r2 q2
/- xs.append(e), list.index on a module's tuple .. are MtR facts of 06m -/
end
end L2

namespace L2
open PySem PySem.Spec PyProof.Rows

def MtM (X : Cx) (id : String) (r : V → List V → Hp → VK → Prop) : Prop :=
  ∀ (pins : List (Addr × Obj)) (s : Shared) (σ : St) (H : Hp) (x : V) (xs : List V) (v : Value) (us : List Value) (Q : VK), Inv X pins σ H s → RelV x v → Vals xs us → r x xs H Q →
    wpAny (model X.prog X.w) X.A (call (.builtin id) (v :: us)) (EP X pins σ Q) X.xe s

theorem Vals.zero {us : List Value} (r : Vals [] us) : us = [] := List.eq_nil_of_length_eq_zero (Paired.length r).symm
theorem Vals.one {x : V} {us : List Value} (r : Vals [x] us) : ∃ u, us = [u] ∧ RelV x u := by
  obtain ⟨u, ur, rfl, h, t⟩ := r.inv
  rw [t.zero]
  exact ⟨u, rfl, h⟩
theorem Vals.dropLast {xs : List V} {us : List Value} (h : Vals xs us) : Vals xs.dropLast us.dropLast := by
  induction h with
  | nil => exact .nil
  | cons r t ih =>
    cases t with
    | nil => exact .nil
    | cons q t' => exact .cons r ih
theorem Vals.eraseIdx : ∀ {xs : List V} {us : List Value} (i : Nat), Vals xs us → Vals (xs.eraseIdx i) (us.eraseIdx i)
  | _, _, _, .nil => .nil
  | _, _, 0, .cons _ t => t
  | _, _, i + 1, .cons r t => .cons r (Vals.eraseIdx i t)
theorem Vals.rep {xs : List V} {us : List Value} (h : Vals xs us) : ∀ k : Nat, Vals (List.replicate k xs).flatten (List.replicate k us).flatten
  | 0 => .nil
  | k + 1 => by
    rw [List.replicate_succ, List.replicate_succ, List.flatten_cons, List.flatten_cons]
    exact Vals.append h (Vals.rep h k)
theorem erase_last {α : Type} (l : List α) : l.eraseIdx (l.length - 1) = l.dropLast := List.eraseIdx_length_sub_one
theorem len_erase {α : Type} : ∀ (l : List α) (i : Nat), (l.eraseIdx i).length ≤ l.length
  | [], _ => Nat.le_refl _
  | _ :: _, 0 => Nat.le_succ _
  | _ :: r, i + 1 => Nat.succ_le_succ (len_erase r i)
theorem foldl_rep (its : List Value) : ∀ (k : Nat) (acc : List Value),
    List.foldl (fun x1 x2 => x1 ++ x2) acc.toArray (List.replicate k its.toArray) = (acc ++ (List.replicate k its).flatten).toArray
  | 0, acc => by simp
  | k + 1, acc => by
    have e : acc.toArray ++ its.toArray = (acc ++ its).toArray := by simp
    have e2 : (acc ++ its) ++ (List.replicate k its).flatten = acc ++ (List.replicate (k + 1) its).flatten := by
      rw [List.replicate_succ, List.flatten_cons, List.append_assoc]
    rw [← e2, ← foldl_rep its k (acc ++ its), ← e, List.replicate_succ, List.foldl_cons]

section
variable {X : Cx} {pins : List (Addr × Obj)} {σ : St} {H : Hp} {s : Shared} {l b : Addr} {xs ys zs : List V}

theorem Inv.lset {its its' : List Value} {n : Nat} {f : Array Value → Array Value} {t' : Nat} (I : Inv X pins σ H s) (hH : H l = some (.lst xs))
    (e : s.heap.get? l = some { cls := .type "list", data := .seq its.toArray n }) (hf : f its.toArray = its'.toArray) (hv : Vals ys its') (hz : ys.length ≤ sizeLine) :
    Inv X pins σ (upd H l (.lst ys)) { s with heap := s.heap.update l (Obj.mapSeq f), toks := t' } := by
  have q := PySem.IsL.update e f
  rw [hf] at q
  refine I.write (x := l) (e := l) (by rw [hH]; exact trivial) (.inl rfl) (fun b' u hb hu => (Heap.get?_update_other s.heap (Obj.mapSeq f) (Ne.symm hb)).trans hu) ⟨_, q⟩ ?_
  exact ⟨hz, its', _, hv, q⟩
theorem Inv.lnew {its : List Value} {t' : Nat} (I : Inv X pins σ H s) (hv : Vals ys its) (hz : ys.length ≤ sizeLine) :
    Inv X pins σ (upd H s.heap.objs.size (.lst ys)) { s with heap := s.heap.push { cls := .type "list", data := .seq its.toArray }, toks := t' } :=
  I.laid (fun _ _ q => Heap.get?_push_of_some _ q) (Nat.le_refl _) ⟨hz, its, 0, hv, Heap.get?_push_size _ rfl⟩
theorem Inv.fresh (I : Inv X pins σ H s) : H s.heap.objs.size = none := I.hok.fresh (Nat.le_refl _)
theorem Inv.lstM (I : Inv X pins σ H s) (hH : H l = some (.lst xs)) : xs.length ≤ sizeLine ∧ ∃ (its : List Value) (n : Nat), Vals xs its ∧ xs.length = its.length ∧ s.heap.get? l = some { cls := .type "list", data := .seq its.toArray n } := by
  obtain ⟨z, its, n, r, e⟩ := I.hok l _ hH
  exact ⟨z, its, n, r, r.length, e⟩

theorem notLongL {n : Nat} (h : n ≤ sizeLine) : Builtin.List.listTooLong n = false := by
  unfold Builtin.List.listTooLong
  exact decide_eq_false (by omega)
end

section
variable {X : Cx}

inductive rAppendI (x : V) (vs : List V) (H : Hp) (Q : VK) : Prop
  | mk (l : _) (xs : _) (y : _) (x0 : x = .ref l) (x1 : vs = [y]) (x2 : H l = some (.lst xs)) (x3 : xs.length < sizeLine) (x4 : Q .non (upd H l (.lst (xs ++ [y])))) : rAppendI  x vs H Q
def rAppend : V → List V → Hp → VK → Prop := fun x vs H Q => rAppendI  x vs H Q
theorem mt_append : MtM X "list.append" rAppend := by
  intro pins s σ H x vs v us Q I rx rv h
  obtain ⟨l, xs, y, rfl, rfl, hH, hz, q⟩ := h
  cases rx
  obtain ⟨u, rfl, ru⟩ := rv.one
  obtain ⟨z, its, n, r, hl, e⟩ := I.lstM hH
  refine call_meets F.slot_list_append ⟨_, e, rfl⟩ F.entry_list_append (F.args_list_append_2 _ _) (PySem.list_append l its.toArray n u (by rw [List.size_toArray]; omega)) ⟨e, ?_⟩
  refine ⟨.non, _, I.lset (its' := its ++ [u]) hH e (by simp) (r.append (.cons ru .nil)) ?_, rfl, q⟩
  rw [List.length_append, List.length_singleton]
  omega

inductive rExtendI (x : V) (vs : List V) (H : Hp) (Q : VK) : Prop
  | mk (l : _) (b : _) (xs : _) (zs : _) (x0 : x = .ref l) (x1 : vs = [.ref b]) (x2 : H l = some (.lst xs)) (x3 : H b = some (.lst zs)) (x4 : xs.length + zs.length ≤ sizeLine) (x5 : Q .non (upd H l (.lst (xs ++ zs)))) : rExtendI  x vs H Q
def rExtend : V → List V → Hp → VK → Prop := fun x vs H Q => rExtendI  x vs H Q
theorem mt_extend : MtM X "list.extend" rExtend := by
  intro pins s σ H x vs v us Q I rx rv h
  obtain ⟨l, b, xs, zs, rfl, rfl, hH, hB, hz, q⟩ := h
  cases rx
  obtain ⟨u, rfl, ru⟩ := rv.one
  cases ru
  obtain ⟨z, its, n, r, hl, e⟩ := I.lstM hH
  obtain ⟨z2, its2, n2, r2, hl2, e2⟩ := I.lstM hB
  have hsz : its.toArray.size + its2.toArray.size ≤ sizeLine := by rw [List.size_toArray, List.size_toArray]; omega
  have hlong : ¬ (!its.toArray.isEmpty && Builtin.List.listTooLong (its.toArray.size + its2.toArray.size)) = true := by
    rw [notLongL hsz, Bool.and_false]
    exact Bool.false_ne_true
  refine call_meets F.slot_list_extend ⟨_, e, rfl⟩ F.entry_list_extend (F.args_list_extend_2 _ _)
    (AutoSeq1.list_extend_list_list_0 l its.toArray n b its2.toArray n2 hlong (by rw [List.size_toArray]; omega) (by omega)) ⟨e, e2, ?_⟩
  refine ⟨.non, _, I.lset (its' := its ++ its2) hH e (by simp) (r.append r2) ?_, rfl, q⟩
  rw [List.length_append]
  omega

inductive rPopI (x : V) (vs : List V) (H : Hp) (Q : VK) : Prop
  | mk (l : _) (xs : _) (y : _) (x0 : x = .ref l) (x1 : vs = []) (x2 : H l = some (.lst xs)) (x3 : xs[xs.length - 1]? = some y) (x4 : Q y (upd H l (.lst xs.dropLast))) : rPopI  x vs H Q
def rPop : V → List V → Hp → VK → Prop := fun x vs H Q => rPopI  x vs H Q
theorem mt_pop : MtM X "list.pop" rPop := by
  intro pins s σ H x vs v us Q I rx rv h
  obtain ⟨l, xs, y, rfl, rfl, hH, hy, q⟩ := h
  cases rx
  have hus := rv.zero
  subst hus
  obtain ⟨z, its, n, r, hl, e⟩ := I.lstM hH
  obtain ⟨u, hu, ru⟩ := r.get hy
  have hy' : its.toArray[its.toArray.size - 1]? = some u := by
    show its.toArray[its.length - 1]? = some u
    rw [← Array.getElem?_toList, ← hl]
    exact hu
  refine call_meets F.slot_list_pop ⟨_, e, rfl⟩ F.entry_list_pop (F.args_list_pop_1 _) (MeetsSeq.list_pop_last l its.toArray n u hy' (by rw [List.size_toArray]; omega)) ⟨e, ?_⟩
  refine ⟨y, _, I.lset (its' := its.dropLast) hH e ?_ r.dropLast ?_, ru, q⟩
  · show its.toArray.eraseIdxIfInBounds (its.toArray.size - 1) = its.dropLast.toArray
    rw [List.size_toArray, List.eraseIdxIfInBounds_toArray, erase_last]
  · rw [List.length_dropLast]
    omega

inductive rPopAtI (x : V) (vs : List V) (H : Hp) (Q : VK) : Prop
  | mk (l : _) (xs : _) (i : _) (k : _) (y : _) (x0 : x = .ref l) (x1 : vs = [.int i]) (x2 : H l = some (.lst xs)) (x3 : -(2 ^ 63) ≤ i) (x4 : i < 2 ^ 63) (x5 : seqIndex? i xs.length = some k) (x6 : xs[k]? = some y) (x7 : Q y (upd H l (.lst (xs.eraseIdx k)))) : rPopAtI  x vs H Q
def rPopAt : V → List V → Hp → VK → Prop := fun x vs H Q => rPopAtI  x vs H Q
theorem mt_popAt : MtM X "list.pop" rPopAt := by
  intro pins s σ H x vs v us Q I rx rv h
  obtain ⟨l, xs, i, k, y, rfl, rfl, hH, h1, h2, hk, hy, q⟩ := h
  cases rx
  obtain ⟨u, rfl, ru⟩ := rv.one
  obtain ⟨t, rfl⟩ := ru
  obtain ⟨z, its, n, r, hl, e⟩ := I.lstM hH
  obtain ⟨w, hw, rw'⟩ := r.get hy
  refine call_meets F.slot_list_pop ⟨_, e, rfl⟩ F.entry_list_pop (F.args_list_pop_2 _ _)
    (MeetsSeq.list_pop_at l its.toArray n i t k w (fitsIndex_both h1 h2) (by rw [List.size_toArray, ← hl]; exact hk) (by rw [← Array.getElem?_toList]; exact hw) (by rw [List.size_toArray]; omega)) ⟨e, ?_⟩
  refine ⟨y, _, I.lset (its' := its.eraseIdx k) hH e ?_ (r.eraseIdx k) ?_, rw', q⟩
  · show its.toArray.eraseIdxIfInBounds k = (its.eraseIdx k).toArray
    rw [List.eraseIdxIfInBounds_toArray]
  · have := len_erase xs k
    omega

inductive rReverseI (x : V) (vs : List V) (H : Hp) (Q : VK) : Prop
  | mk (l : _) (xs : _) (x0 : x = .ref l) (x1 : vs = []) (x2 : H l = some (.lst xs)) (x3 : Q .non (upd H l (.lst xs.reverse))) : rReverseI  x vs H Q
inductive rClearI (x : V) (vs : List V) (H : Hp) (Q : VK) : Prop
  | mk (l : _) (xs : _) (x0 : x = .ref l) (x1 : vs = []) (x2 : H l = some (.lst xs)) (x3 : Q .non (upd H l (.lst []))) : rClearI  x vs H Q
inductive rCatI (x : V) (y : V) (H : Hp) (Q : VK) : Prop
  | mk (l : _) (b : _) (xs : _) (zs : _) (x0 : x = .ref l) (x1 : y = .ref b) (x2 : H l = some (.lst xs)) (x3 : H b = some (.lst zs)) (x4 : xs.length + zs.length ≤ sizeLine) (x5 : ∀ p, H p = none → Q (.ref p) (upd H p (.lst (xs ++ zs)))) : rCatI  x y H Q
def rCat : R2 := fun x y H Q => rCatI  x y H Q
theorem op_cat : OpR X (binaryOp .Add) rCat := by
  intro pins s σ H x y v u Q I rx ry h
  obtain ⟨l, b, xs, zs, rfl, rfl, hH, hB, hz, q⟩ := h
  cases rx
  cases ry
  obtain ⟨z, its, n, r, hl, e⟩ := I.lstM hH
  obtain ⟨z2, its2, n2, r2, hl2, e2⟩ := I.lstM hB
  refine PySem.P.add_list e e2 ?_ (by rw [List.size_toArray, List.size_toArray]; omega)
  have ea : its.toArray ++ its2.toArray = (its ++ its2).toArray := by simp
  rw [ea]
  exact ⟨.ref _, _, I.lnew (t' := s.toks) (r.append r2) (by rw [List.length_append]; omega), rfl, q _ I.fresh⟩
inductive rRepI (x : V) (y : V) (H : Hp) (Q : VK) : Prop
  | mk (l : _) (k : _) (xs : _) (x0 : x = .ref l) (x1 : y = .int k) (x2 : H l = some (.lst xs)) (x3 : -(2 ^ 63) ≤ k) (x4 : k < 2 ^ 63) (x5 : xs.length * k.toNat ≤ sizeLine) (x6 : ∀ p, H p = none → Q (.ref p) (upd H p (.lst (List.replicate k.toNat xs).flatten))) : rRepI  x y H Q
def rRep : R2 := fun x y H Q => rRepI  x y H Q
theorem len_rep {α : Type} (xs : List α) (k : Nat) : (List.replicate k xs).flatten.length = k * xs.length := by
  induction k with
  | zero => simp
  | succ k ih => rw [List.replicate_succ, List.flatten_cons, List.length_append, ih, Nat.succ_mul, Nat.add_comm]
theorem op_rep : OpR X (binaryOp .Mult) rRep := by
  intro pins s σ H x y v u Q I rx ry h
  obtain ⟨l, k, xs, rfl, rfl, hH, h1, h2, hz, q⟩ := h
  cases rx
  obtain ⟨t, rfl⟩ := ry
  obtain ⟨z, its, n, r, hl, e⟩ := I.lstM hH
  have hlen : its.toArray.size * k.toNat ≤ sizeLine := by rw [List.size_toArray, ← hl]; exact hz
  have hcap : ¬ its.toArray.size * k.toNat > (2 ^ 63 - 1) / 8 := by
    have : (sizeLine : Nat) ≤ (2 ^ 63 - 1) / 8 := by decide
    omega
  have hfit : ¬ (!Builtin.List.listFitsIndex k) = true := by
    rw [fitsIndex_both h1 h2]
    exact Bool.false_ne_true
  have hlong : ¬ Builtin.List.listTooLong (its.toArray.size * k.toNat) = true := by
    rw [notLongL hlen]
    exact Bool.false_ne_true
  have hnew : List.foldl (fun x1 x2 => x1 ++ x2) #[] (List.replicate (if its.toArray.isEmpty = true then 0 else k.toNat) its.toArray) = (List.replicate k.toNat its).flatten.toArray := by
    have f0 : ∀ m : Nat, List.foldl (fun x1 x2 => x1 ++ x2) #[] (List.replicate m its.toArray) = (List.replicate m its).flatten.toArray := fun m => by
      have := foldl_rep its m []
      rw [List.nil_append] at this
      exact this
    rw [f0]
    cases its with
    | nil => simp
    | cons a r' => rw [if_neg (by simp)]
  refine wpAny_binaryOp_repeat_ref (T := "list") (U := "int") (by decide) ⟨_, e, rfl⟩ (fun s' => typeIs_int s' k t) noFill_list_mul F.fills_int_mul F.slot_int_rmul repeat_list F.slot_int_index.lookup
    (call_meets F.slot_int_rmul (typeIs_int s k t) F.entry_int_rmul (F.args_int_rmul_2 _ _) (int___rmul___int_list k t l its.toArray n)
      ⟨e, rfl, ⟨_, e, rfl⟩, call_meets F.slot_list_mul ⟨_, e, rfl⟩ F.entry_list_mul (F.args_list_mul_2 _ _) (AutoListH.list___mul___list_int_3 l its.toArray n k t hfit hcap hlong) ⟨e, ?_⟩⟩)
  rw [hnew]
  exact ⟨.ref _, _, I.lnew (t' := s.toks) (r.rep k.toNat) (by rw [len_rep, Nat.mul_comm]; exact hz), rfl, q _ I.fresh⟩

end

section
variable {prog : Program} {w : World} {A : Around} {E : Value → Shared → Prop} {s : Shared}
end

section
variable {X : Cx}
end
end L2

namespace L2
open PySem PySem.Spec PyProof.Rows

section
variable {κ : Type} [DecidableEq κ]
def valV (kvs : List (κ × V)) (k : κ) : Option V := (kvs.find? fun kv => decide (kv.1 = k)).map (·.2)
def putK (kvs : List (κ × V)) (k : κ) (v : V) : List (κ × V) :=
  if (kvs.any fun kv => decide (kv.1 = k)) = true then kvs.map (fun kv => if kv.1 = k then (kv.1, v) else kv) else kvs ++ [(k, v)]
def dropK (kvs : List (κ × V)) (k : κ) : List (κ × V) := kvs.filter fun kv => decide (kv.1 ≠ k)

theorem valV_pos {p : κ × V} {r : List (κ × V)} {k : κ} (e : p.1 = k) : valV (p :: r) k = some p.2 := by simp [valV, List.find?_cons, e]
theorem valV_neg {p : κ × V} {r : List (κ × V)} {k : κ} (e : ¬ p.1 = k) : valV (p :: r) k = valV r k := by simp [valV, List.find?_cons, e]
theorem valV_any (k : κ) : ∀ kvs : List (κ × V), (kvs.any fun kv => decide (kv.1 = k)) = (valV kvs k).isSome
  | [] => rfl
  | p :: r => by
    rw [List.any_cons]
    by_cases e : p.1 = k
    · simp only [valV_pos e, decide_eq_true e, Bool.true_or, Option.isSome_some]
    · rw [valV_neg e, decide_eq_false e, Bool.false_or]; exact valV_any k r
theorem length_putK (kvs : List (κ × V)) (k : κ) (v : V) : (putK kvs k v).length ≤ kvs.length + 1 := by
  unfold putK
  split
  · rw [List.length_map]; omega
  · rw [List.length_append, List.length_cons, List.length_nil]; omega
theorem putK_new {kvs : List (κ × V)} {k : κ} (v : V) (h : valV kvs k = none) : putK kvs k v = kvs ++ [(k, v)] := by
  unfold putK
  rw [valV_any, h]
  exact if_neg (by decide)

theorem RelO.isSome_eq {o : Option V} {u : Option Value} (r : RelO o u) : o.isSome = u.isSome := by
  cases o with
  | none => cases u with
    | none => rfl
    | some _ => exact (show False from r).elim
  | some _ => cases u with
    | none => exact (show False from r).elim
    | some _ => rfl
theorem KV.val {kvs : List (κ × V)} {vs : List (κ × Value)} (r : KV kvs vs) (k : κ) : RelO (valV kvs k) (valueAt vs k) := by
  unfold KV at r
  induction r with
  | nil => exact True.intro
  | @cons p q ps qs h t ih =>
    obtain ⟨h1, h2⟩ := h
    by_cases e : p.1 = k
    · have e' : q.1 = k := h1.symm.trans e
      have b : valueAt (q :: qs) k = some q.2 := by simp [valueAt, List.find?_cons, e']
      rw [valV_pos e, b]; exact h2
    · have e' : ¬ q.1 = k := fun z => e (h1.trans z)
      have b : valueAt (q :: qs) k = valueAt qs k := by simp [valueAt, List.find?_cons, e']
      rw [valV_neg e, b]; exact ih
theorem KV.any {kvs : List (κ × V)} {vs : List (κ × Value)} (r : KV kvs vs) (k : κ) : (kvs.any fun kv => decide (kv.1 = k)) = vs.any fun kv => decide (kv.1 = k) := by
  unfold KV at r
  induction r with
  | nil => rfl
  | cons h t ih => rw [List.any_cons, List.any_cons, ih, h.1]
theorem KV.repl {kvs : List (κ × V)} {vs : List (κ × Value)} (r : KV kvs vs) (k : κ) {y : V} {u : Value} (ry : RelV y u) :
    KV (kvs.map fun kv => if kv.1 = k then (kv.1, y) else kv) (vs.map fun kv => if kv.1 = k then (kv.1, u) else kv) := by
  unfold KV at r ⊢
  induction r with
  | nil => exact .nil
  | @cons p q ps qs h t ih =>
    rw [List.map_cons, List.map_cons]
    refine .cons ?_ ih
    obtain ⟨h1, h2⟩ := h
    by_cases e : p.1 = k
    · rw [if_pos e, if_pos (h1.symm.trans e)]; exact ⟨h1, ry⟩
    · rw [if_neg e, if_neg (fun z => e (h1.trans z))]; exact ⟨h1, h2⟩
theorem KV.put {kvs : List (κ × V)} {vs : List (κ × Value)} (r : KV kvs vs) (k : κ) {y : V} {u : Value} (ry : RelV y u) : KV (putK kvs k y) (stored vs k u) := by
  unfold putK stored
  rw [r.any k]
  by_cases e : (vs.any fun kv => decide (kv.1 = k)) = true
  · rw [if_pos e, if_pos e]; exact r.repl k ry
  · rw [if_neg e, if_neg e]; exact Paired.snoc r ⟨rfl, ry⟩
theorem KV.drop {kvs : List (κ × V)} {vs : List (κ × Value)} (r : KV kvs vs) (k : κ) : KV (dropK kvs k) (without vs k) := by
  unfold KV at r ⊢
  unfold dropK without
  induction r with
  | nil => exact .nil
  | @cons p q ps qs h t ih =>
    obtain ⟨h1, h2⟩ := h
    rw [List.filter_cons, List.filter_cons]
    by_cases e : p.1 = k
    · have a : ¬ decide (p.1 ≠ k) = true := by simp [e]
      have b : ¬ decide (q.1 ≠ k) = true := by simp [h1.symm.trans e]
      rw [if_neg a, if_neg b]; exact ih
    · have e' : ¬ q.1 = k := fun z => e (h1.trans z)
      have a : decide (p.1 ≠ k) = true := by simp [e]
      have b : decide (q.1 ≠ k) = true := by simp [e']
      rw [if_pos a, if_pos b]; exact .cons ⟨h1, h2⟩ ih
theorem KV.keys {kvs : List (κ × V)} {vs : List (κ × Value)} (r : KV kvs vs) : kvs.map (·.1) = vs.map (·.1) := by
  unfold KV at r
  induction r with
  | nil => rfl
  | cons h t ih => rw [List.map_cons, List.map_cons, ih, h.1]
theorem KV.length {kvs : List (κ × V)} {vs : List (κ × Value)} (r : KV kvs vs) : kvs.length = vs.length := Paired.length r
theorem dropK_le (kvs : List (κ × V)) (k : κ) : (dropK kvs k).length ≤ kvs.length := List.length_filter_le _ _
end


theorem kV_is {P : Program} {w : World} {k : Key} {u : Value} (r : RelV (kV k) u) : (mixKind P w).is k u = true := by
  cases k with
  | inl i => obtain ⟨t, e⟩ := (show ∃ t, u = Value.int i t from r); subst e; exact mixKind_int P w i t
  | inr x => obtain ⟨t, e⟩ := (show ∃ t, u = Value.str x t from r); subst e; exact mixKind_str P w x t
theorem items_are {P : Program} {w : World} : ∀ {ks : List Key} {us : List Value}, Vals (ks.map kV) us → ItemsAre (mixKind P w) ks us
  | [], _, r => by rw [List.map_nil] at r; cases r; exact .nil
  | k :: ks, _, r => by
    rw [List.map_cons] at r
    cases r with
    | cons h t => exact .cons (kV_is h) (items_are t)

abbrev KT (H : Hp) : List (List Key × V) → List (List Key × Addr × Value) → Prop := Paired fun p q => p.1 = q.1 ∧ H q.2.1 = some (.tup (p.1.map kV)) ∧ RelV p.2 q.2.2
theorem KT.val {H : Hp} {kvs : List (List Key × V)} {xs : List (List Key × Addr × Value)} (r : KT H kvs xs) (k : List Key) : RelO (valV kvs k) ((atKey xs k).map (·.2)) := by
  induction r with
  | nil => exact True.intro
  | @cons p q ps qs h t ih =>
    obtain ⟨h1, _, h2⟩ := h
    by_cases e : p.1 = k
    · have e' : q.1 = k := h1.symm.trans e
      have b : atKey (q :: qs) k = some q.2 := by simp [atKey, List.find?_cons, e']
      rw [valV_pos e, b]; exact h2
    · have e' : ¬ q.1 = k := fun z => e (h1.trans z)
      have b : atKey (q :: qs) k = atKey qs k := by simp [atKey, List.find?_cons, e']
      rw [valV_neg e, b]; exact ih
theorem KT.repl {H : Hp} {kvs : List (List Key × V)} {xs : List (List Key × Addr × Value)} (r : KT H kvs xs) (k : List Key) {y : V} {u : Value} (ry : RelV y u) :
    KT H (kvs.map fun kv => if kv.1 = k then (kv.1, y) else kv) (xs.map (putAt k u)) := by
  induction r with
  | nil => exact .nil
  | @cons p q ps qs h t ih =>
    rw [List.map_cons, List.map_cons]
    refine .cons ?_ ih
    obtain ⟨h1, h2, h3⟩ := h
    unfold putAt
    by_cases e : p.1 = k
    · rw [if_pos e, if_pos (h1.symm.trans e)]; exact ⟨h1, h2, ry⟩
    · rw [if_neg e, if_neg (fun z => e (h1.trans z))]; exact ⟨h1, h2, h3⟩
theorem KT.put {H : Hp} {kvs : List (List Key × V)} {xs : List (List Key × Addr × Value)} (r : KT H kvs xs) (k : List Key) {b : Addr} {y : V} {u : Value} (hb : H b = some (.tup (k.map kV))) (ry : RelV y u) :
    KT H (putK kvs k y) (storedH xs k b u) := by
  have e : (kvs.any fun kv => decide (kv.1 = k)) = (atKey xs k).isSome := by
    rw [valV_any, (r.val k).isSome_eq, Option.isSome_map]
  unfold putK storedH
  rw [e]
  by_cases q : (atKey xs k).isSome = true
  · rw [if_pos q, if_pos q]; exact r.repl k ry
  · rw [if_neg q, if_neg q]; exact Paired.snoc r ⟨rfl, hb, ry⟩
theorem KT.keeps {H H' : Hp} {kvs : List (List Key × V)} {xs : List (List Key × Addr × Value)} (r : KT H kvs xs) (ht : ∀ b ys, H b = some (.tup ys) → H' b = some (.tup ys)) : KT H' kvs xs :=
  Paired.mapP r fun _ _ z => ⟨z.1, ht _ _ z.2.1, z.2.2⟩

section
variable {P : Program} {w : World} {H : Hp} {h : Heap} {a : Addr}
theorem rd_of {u : HO} (ok : HOk P w H h) (e : Rd H a u) : ObjOk P w H h a u := e.ok ok
theorem dk_rd {kvs : List (Key × V)} (ok : HOk P w H h) (e : Rd H a (.dK kvs)) : kvs.length ≤ sizeLine ∧ (a == sysModules) = false ∧ ∃ vs, KV kvs vs ∧ h.DictOf (mixKind P w) a vs :=
  show ObjOk P w H h a (.dK kvs) from rd_of ok e
theorem dk_of {kvs : List (Key × V)} (ok : HOk P w H h) (e : H a = some (.dK kvs)) : kvs.length ≤ sizeLine ∧ (a == sysModules) = false ∧ ∃ vs, KV kvs vs ∧ h.DictOf (mixKind P w) a vs := dk_rd ok (.inl e)
theorem key_of {ks : List Key} (ok : HOk P w H h) (e : H a = some (.tup (ks.map kV))) : (tupleKind (mixKind P w)).is h ks a := by
  obtain ⟨_, its, r, o, h1, h2, n, h3⟩ := (show ObjOk P w H h a (.tup (ks.map kV)) from ok a _ e)
  exact ⟨o, its.toArray, n, h1, h2, h3, by simpa using items_are r⟩
theorem dt_rd {kvs : List (List Key × V)} (ok : HOk P w H h) (e : Rd H a (.dT kvs)) : kvs.length ≤ sizeLine ∧ (a == sysModules) = false ∧
    ∃ xs, KT H kvs xs ∧ h.DictOfH (tupleKind (mixKind P w)) a xs := by
  obtain ⟨z, y, xs, r, o, es, ep, h1, h2, h3, h4, h5⟩ := (show ObjOk P w H h a (.dT kvs) from rd_of ok e)
  refine ⟨z, y, xs, r, o, es, ep, h1, h2, h3, h4, fun x hx => ?_, h5⟩
  have all : ∀ {l : List (List Key × V)} {m : List (List Key × Addr × Value)}, KT H l m → ∀ x ∈ m, (tupleKind (mixKind P w)).is h x.1 x.2.1 := by
    intro l m q
    induction q with
    | nil => intro x hx; exact nomatch hx
    | @cons p q ps qs hq t ih =>
      intro x hx
      rcases List.mem_cons.mp hx with e | hx
      · subst e
        exact key_of ok (by rw [← hq.1]; exact hq.2.1)
      · exact ih x hx
  exact all r x hx
theorem dt_of {kvs : List (List Key × V)} (ok : HOk P w H h) (e : H a = some (.dT kvs)) : kvs.length ≤ sizeLine ∧ (a == sysModules) = false ∧
    ∃ xs, KT H kvs xs ∧ h.DictOfH (tupleKind (mixKind P w)) a xs := dt_rd ok (.inl e)
end

def DGet (H : Hp) (a : Addr) (y : V) (r : Option V) : Prop :=
  (∃ kvs k, Rd H a (.dK kvs) ∧ y = kV k ∧ r = valV kvs k) ∨ ∃ kvs k b, Rd H a (.dT kvs) ∧ y = .ref b ∧ H b = some (.tup (k.map kV)) ∧ r = valV kvs k
def DPut (H : Hp) (a : Addr) (y v : V) (H' : Hp) : Prop :=
  (∃ kvs k, H a = some (.dK kvs) ∧ y = kV k ∧ kvs.length < sizeLine ∧ H' = upd H a (.dK (putK kvs k v))) ∨
  ∃ kvs k b, H a = some (.dT kvs) ∧ y = .ref b ∧ H b = some (.tup (k.map kV)) ∧ kvs.length < sizeLine ∧ H' = upd H a (.dT (putK kvs k v))
section
variable {X : Cx} {pins : List (Addr × Obj)} {σ : St} {H : Hp} {s : Shared} {a : Addr} {y v : V} {u r : Value} {o : Option V} {A : Around} {E : Value → Shared → Prop}

theorem Inv.big (I : Inv X pins σ H s) : sysModules < s.heap.objs.size := by
  have h : mainGlobals < s.heap.objs.size := (I.mod.glob.keeps I.bk).lt
  exact Nat.lt_trans (by decide) h

theorem d_getItem {Q : Value → Shared → Prop} (hu : A.units + 1 < cLine) (I : Inv X pins σ H s) (g : DGet H a y (some v)) (ry : RelV y u) (h : ∀ w' s', Inv X pins σ H s' → RelV v w' → Q w' s') :
    wpAny (model X.prog X.w) A (getItem (.ref a) u) Q E s := by
  rcases g with ⟨kvs, k, e, ey, l⟩ | ⟨kvs, k, b, e, ey, eb, l⟩
  · subst ey
    obtain ⟨z, hd, vs, rel, dd⟩ := dk_rd I.hok e
    obtain ⟨w', hw, rw'⟩ := RelO.some_of (v := v) (o := valueAt vs k) (by rw [l]; exact rel.val k)
    exact wpAny_getItem_of (kV_is ry) dd.mapOf hw (h w' _ (I.tok _) rw')
  · subst ey
    cases (show u = Value.ref b from ry)
    obtain ⟨z, hd, xs, rel, dd⟩ := dt_rd I.hok e
    obtain ⟨w', hw, rw'⟩ := RelO.some_of (v := v) (o := (atKey xs k).map (·.2)) (by rw [l]; exact rel.val k)
    obtain ⟨p, hp, hp2⟩ := Option.map_eq_some_iff.mp hw
    refine wpAny_getItem_heap (tupleKind_room_in1 hu) (key_of I.hok eb) dd hp ?_
    rw [hp2]
    exact h w' _ (I.tok _) rw'
theorem d_in {Q : Value → Shared → Prop} (hu : A.units + 1 < cLine) (I : Inv X pins σ H s) (g : DGet H a y o) (ry : RelV y u) (h : ∀ s', Inv X pins σ H s' → Q (.bool o.isSome) s') :
    wpAny (model X.prog X.w) A (compareOp .In u (.ref a)) Q E s := by
  rcases g with ⟨kvs, k, e, ey, l⟩ | ⟨kvs, k, b, e, ey, eb, l⟩
  · subst ey
    obtain ⟨z, hd, vs, rel, dd⟩ := dk_rd I.hok e
    refine wpAny_in_of (kV_is ry) hd dd.mapOf ?_
    rw [← (rel.val k).isSome_eq, ← l]
    exact h _ (I.tok _)
  · subst ey
    cases (show u = Value.ref b from ry)
    obtain ⟨z, hd, xs, rel, dd⟩ := dt_rd I.hok e
    refine wpAny_in_heap (tupleKind_room_in1 hu) (key_of I.hok eb) hd dd ?_
    have q := (rel.val k).isSome_eq
    rw [Option.isSome_map] at q
    rw [← q, ← l]
    exact h _ (I.tok _)
theorem d_notIn {Q : Value → Shared → Prop} (hu : A.units + 1 < cLine) (I : Inv X pins σ H s) (g : DGet H a y o) (ry : RelV y u) (h : ∀ s', Inv X pins σ H s' → Q (.bool (!o.isSome)) s') :
    wpAny (model X.prog X.w) A (compareOp .NotIn u (.ref a)) Q E s := by
  rcases g with ⟨kvs, k, e, ey, l⟩ | ⟨kvs, k, b, e, ey, eb, l⟩
  · subst ey
    obtain ⟨z, hd, vs, rel, dd⟩ := dk_rd I.hok e
    refine wpAny_notIn_of (kV_is ry) hd dd.mapOf ?_
    rw [← (rel.val k).isSome_eq, ← l]
    exact h _ (I.tok _)
  · subst ey
    cases (show u = Value.ref b from ry)
    obtain ⟨z, hd, xs, rel, dd⟩ := dt_rd I.hok e
    refine wpAny_notIn_heap (tupleKind_room_in1 hu) (key_of I.hok eb) hd dd ?_
    have q := (rel.val k).isSome_eq
    rw [Option.isSome_map] at q
    rw [← q, ← l]
    exact h _ (I.tok _)
theorem d_write {h' : Heap} {t' : Nat} {ob : HO} (I : Inv X pins σ H s) (mu : Mut (H a)) (hs : Heap.SameBut a s.heap h') (he : ∃ q, h'.get? a = some q) (new : ObjOk X.prog X.w (upd H a ob) h' a ob) :
    Inv X pins σ (upd H a ob) { s with heap := h', toks := t' } :=
  I.write (x := a) (e := a) mu (.inl rfl) (fun b q hb z => (hs.2 b hb).trans z) he new
theorem dk_new {P : Program} {w : World} {H' : Hp} {h' : Heap} {kvs : List (Key × V)} {vs : List (Key × Value)} (z : kvs.length ≤ sizeLine) (hd : (a == sysModules) = false) (rel : KV kvs vs) (dd : h'.DictOf (mixKind P w) a vs) :
    ObjOk P w H' h' a (.dK kvs) := ⟨z, hd, vs, rel, dd⟩
theorem d_setItem {H' : Hp} {Q : Unit → Shared → Prop} (hu : A.units + 1 < cLine) (I : Inv X pins σ H s) (g : DPut H a y v H') (ry : RelV y u) (rv : RelV v r) (h : ∀ s', Inv X pins σ H' s' → Q () s') :
    wpAny (model X.prog X.w) A (setItem (.ref a) u r) Q E s := by
  rcases g with ⟨kvs, k, e, ey, l, eH⟩ | ⟨kvs, k, b, e, ey, eb, l, eH⟩
  · subst ey eH
    obtain ⟨z, hd, vs, rel, dd⟩ := dk_of I.hok e
    have hz : vs.length ≤ sizeLine := by rw [← rel.length]; exact z
    have hl : (putK kvs k v).length ≤ sizeLine := by have := length_putK kvs k v; omega
    refine wpAny_setItem_pairs (hsz := hz) (kV_is ry) dd fun h' dd' hs => h _ ?_
    have he : ∃ q, h'.get? a = some q := let ⟨q, _, _, hq, _⟩ := dd'; ⟨q, hq⟩
    exact d_write I (by rw [e]; exact True.intro) hs he (dk_new hl hd (rel.put k rv) dd')
  · subst ey eH
    cases (show u = Value.ref b from ry)
    obtain ⟨z, hd, xs, rel, dd⟩ := dt_of I.hok e
    have hz : xs.length ≤ sizeLine := by rw [← Paired.length rel]; exact z
    have hl : (putK kvs k v).length ≤ sizeLine := by have := length_putK kvs k v; omega
    refine wpAny_setItem_heap (hsz := hz) (tupleKind_room_in1 hu) (key_of I.hok eb) dd fun h' dd' hs => h _ ?_
    obtain ⟨q, es, ep, hq, h2, h3, h4, _, h5⟩ := dd'
    refine d_write I (by rw [e]; exact True.intro) hs ⟨q, hq⟩ ⟨hl, hd, _, (rel.put k eb rv).keeps fun c ys ec => ?_, q, es, ep, hq, h2, h3, h4, h5⟩
    rw [upd_ne (ne_of ec e (fun z => nomatch z))]
    exact ec
end

section
variable {X : Cx} {pins : List (Addr × Obj)} {σ : St} {H : Hp} {s : Shared} {a : Addr} {kvs : List (Key × V)} {k : Key} {u : Value} {A : Around} {E : Value → Shared → Prop}
theorem d_pop {v : V} {more : List Value} {Q : Value → Shared → Prop} (I : Inv X pins σ H s) (e : H a = some (.dK kvs)) (ry : RelV (kV k) u) (l : valV kvs k = some v) (hm : more = [] ∨ ∃ x, more = [x])
    (h : ∀ w' s', Inv X pins σ (upd H a (.dK (dropK kvs k))) s' → RelV v w' → Q w' s') : wpAny (model X.prog X.w) A (call (.builtin "dict.pop") (.ref a :: u :: more)) Q E s := by
  obtain ⟨z, hd, vs, rel, dd⟩ := dk_of I.hok e
  obtain ⟨w', hw, rw'⟩ := RelO.some_of (v := v) (o := valueAt vs k) (by rw [← l]; exact rel.val k)
  have hp : (keyPart u).isSome = true := by
    cases k with
    | inl i => obtain ⟨t, q⟩ := (show ∃ t, u = Value.int i t from ry); subst q; rfl
    | inr x => obtain ⟨t, q⟩ := (show ∃ t, u = Value.str x t from ry); subst q; rfl
  have ha : argsOk "dict.pop" ⟨.ref a :: u :: more, []⟩ := by
    rcases hm with q | ⟨x, q⟩
    · subst q; exact PySem.F.args_dict_pop_2 _ _
    · subst q; exact PySem.F.args_dict_pop_3 _ _ _
  refine call_meetsIn PySem.F.slot_dict_pop dd.typeIs PySem.F.entry_dict_pop ha (meets_dict_pop_there (mixKind X.prog X.w) a (kV_is ry) more hm hp)
    ⟨vs, w', dd, by rw [← rel.length]; exact z, hw, fun h' dd' hs => h w' _ ?_ rw'⟩
  have he : ∃ q, h'.get? a = some q := let ⟨q, _, _, hq, _⟩ := dd'; ⟨q, hq⟩
  exact d_write I (by rw [e]; exact True.intro) hs he (dk_new (Nat.le_trans (dropK_le kvs k) z) hd (rel.drop k) dd')
theorem d_len {Q : Value → Shared → Prop} (I : Inv X pins σ H s) (e : Rd H a (.dK kvs)) (h : ∀ t s', Inv X pins σ H s' → Q (.int kvs.length t) s') : wpAny (model X.prog X.w) A (call (.builtin "len") [.ref a]) Q E s := by
  obtain ⟨z, hd, vs, rel, dd⟩ := dk_rd I.hok e
  refine call_len_dict hd dd (by rw [← rel.length]; rw [sizeLine_eq] at z; omega) ?_
  rw [← rel.length]
  exact h _ _ (I.tok _)
end


def NoSl (i : Expr) : Prop := ∀ ov iv, subscripted i false ov iv = operate [ov, iv] (getItem ov iv)
theorem subD_of {prog : Program} {w : World} {A : Around} {E : Value → Shared → Prop} {s : Shared} {env : Env} {value slice : Expr} {pos : Pos} {T id : String} {Q : Value → Shared → Prop}
    (hl : typeLookup (.type T) "__getitem__" = pure (some (.builtin id))) (hs : NoSl slice)
    (h : wpAny (model prog w) A (eval value env) (fun o s₁ => wpAny (model prog w) A (eval slice env) (fun i s₂ => s₂.TypeIs o T ∧ wpAny (model prog w) A (getItem o i) Q E s₂) E s₁) E s) :
    wpAny (model prog w) A (eval (.Subscript value slice pos) env) Q E s := by
  refine Subscript_ (wpAny_mono h (fun o s₁ h₁ => wpAny_mono h₁ (fun i s₂ h₂ => ?_) fun _ _ x => x) fun _ _ x => x)
  obtain ⟨hT, h₂⟩ := h₂
  unfold subscriptTail
  refine wpAny_bind ?_
  rw [getitemInPython_of_ne hT.not_modules]
  refine wpAny_bind (wpAny_specialOf hT hl ?_)
  have fin : wpAny (model prog w) A (subscripted slice false o i) (fun r s₃ => wpAny (model prog w) A (letTemporaryGo value o r >>= fun _ => pure r) Q E s₃) E s₂ := by
    rw [hs o i]
    exact wpAny_operating (wpAny_mono h₂ (fun r s₃ h₃ => wpAny_bind (wpAny_letTemporaryGo (wpAny_pure h₃))) fun _ _ x => x)
  first
    | exact wpAny_pure (wpAny_bind fin)
    | exact wpAny_bind (wpAny_pure (wpAny_bind fin))
    | exact wpAny_bind fin

theorem dict_typeIs {X : Cx} {pins : List (Addr × Obj)} {σ : St} {H : Hp} {s : Shared} {a : Addr} {y : V} {o : Option V} (I : Inv X pins σ H s) (g : DGet H a y o) : s.TypeIs (.ref a) "dict" := by
  rcases g with ⟨kvs, k, e, _, _⟩ | ⟨kvs, k, b, e, _, _, _⟩
  · obtain ⟨_, _, vs, _, dd⟩ := dk_rd I.hok e
    exact dd.typeIs
  · obtain ⟨_, _, xs, _, dd⟩ := dt_rd I.hok e
    exact dd.typeIs
inductive DgQ (x y : V) (H : Hp) (Q : VK) : Prop
  | mk (a : Addr) (v : V) (e : x = .ref a) (g : DGet H a y (some v)) (q : Q v H) : DgQ x y H Q
inductive DiQ (x y : V) (H : Hp) (Q : VK) : Prop
  | mk (a : Addr) (o : Option V) (e : x = .ref a) (g : DGet H a y o) (q : Q (.bl o.isSome) H) : DiQ x y H Q
inductive DnQ (x y : V) (H : Hp) (Q : VK) : Prop
  | mk (a : Addr) (o : Option V) (e : x = .ref a) (g : DGet H a y o) (q : Q (.bl (!o.isSome)) H) : DnQ x y H Q
def tDGet (td ty : TE) : TE := fun σ H Q => td σ H fun x H1 => ty σ H1 fun y H2 => DgQ x y H2 Q
def tDIn (ty td : TE) : TE := fun σ H Q => ty σ H fun y H1 => td σ H1 fun x H2 => DiQ x y H2 Q
def tDNotIn (ty td : TE) : TE := fun σ H Q => ty σ H fun y H1 => td σ H1 fun x H2 => DnQ x y H2 Q
def sDPut (td ty tv : TE) : TS := fun D σ H => tv σ H fun v H1 => td σ H1 fun x H2 => ty σ H2 fun y H3 => ∃ a H4, x = .ref a ∧ DPut H3 a y v H4 ∧ D.nx σ H4
section
variable {X : Cx} {o i e value : Expr} {pos pos' tpos : Pos} {td ty tv : TE}
theorem pe_dget (hu : X.A.units + 1 < cLine) (ho : PE X o td) (hi : PE X i ty) (hs : NoSl i) : PE X (.Subscript o i pos) (tDGet td ty) := by
  intro pins s σ H Q I h
  refine subD_of PySem.F.slot_dict_getitem.lookup hs (thn (ho pins s σ H _ I h) fun u s1 zq => zq.elim fun x H1 I1 rx q1 => thn (hi pins s1 σ H1 _ I1 q1) fun iv s2 ⟨y, H2, I2, ry, a, v, ex, g, q2⟩ => ?_)
  subst ex
  obtain rfl : u = Value.ref a := rx
  exact ⟨dict_typeIs I2 g, d_getItem hu I2 g ry fun w' s3 I3 rw' => ⟨v, H2, I3, rw', q2⟩⟩
theorem pc_din (hu : X.A.units + 1 < cLine) (hi : PE X i ty) (ho : PE X o td) : PC X .In i o (tDIn ty td) := by
  intro pins s σ H Q I h
  refine thn (hi pins s σ H _ I h) fun iv s1 zq => zq.elim fun y H1 I1 ry q1 => thn (ho pins s1 σ H1 _ I1 q1) fun u s2 ⟨x, H2, I2, rx, a, ov, ex, g, q2⟩ => ?_
  subst ex
  obtain rfl : u = Value.ref a := rx
  exact d_in hu I2 g ry fun s3 I3 => ⟨.bl ov.isSome, H2, I3, rfl, q2⟩
theorem pc_dnotin (hu : X.A.units + 1 < cLine) (hi : PE X i ty) (ho : PE X o td) : PC X .NotIn i o (tDNotIn ty td) := by
  intro pins s σ H Q I h
  refine thn (hi pins s σ H _ I h) fun iv s1 zq => zq.elim fun y H1 I1 ry q1 => thn (ho pins s1 σ H1 _ I1 q1) fun u s2 ⟨x, H2, I2, rx, a, ov, ex, g, q2⟩ => ?_
  subst ex
  obtain rfl : u = Value.ref a := rx
  exact d_notIn hu I2 g ry fun s3 I3 => ⟨.bl (!ov.isSome), H2, I3, rfl, q2⟩
theorem ps_dput (hu : X.A.units + 1 < cLine) (ho : PE X o td) (hi : PE X i ty) (hv : PE X value tv) (hs : swapsWith value (some (.Subscript o i pos')) pos.line X.env = pure false) :
    PS X (.Assign [.Subscript o i pos'] value pos) (sDPut td ty tv) := by
  intro pins s σ H D I h
  refine wpAny_Assign_Subscript (thn (hv pins s σ H _ I h) fun r s1 zq => zq.elim fun v H1 I1 rv q1 => thn (ho pins s1 σ H1 _ I1 q1) fun u s2 zq => zq.elim fun x H2 I2 rx q2 => thn (hi pins s2 σ H2 _ I2 q2) fun iv s3 ⟨y, H3, I3, ry, a, H4, ex, g, q3⟩ => ?_) hs
  subst ex
  obtain rfl : u = Value.ref a := rx
  exact d_setItem hu I3 g ry rv fun s4 I4 => ⟨σ, H4, I4, q3⟩
end


theorem dk_empty {P : Program} {w : World} {H : Hp} (h : Heap) (hb : sysModules < h.objs.size) : ObjOk P w H (h.push { cls := .type "dict", data := .dict #[] }) h.objs.size (.dK []) :=
  ⟨Nat.zero_le _, beq_eq_false_iff_ne.mpr (Ne.symm (Nat.ne_of_lt hb)), [], .nil, Heap.DictOf.new h⟩
def tDNewK : TE := fun _ H Q => ∀ p, H p = none → Q (.ref p) (upd H p (.dK []))
section
variable {X : Cx} {pos : Pos}
theorem pe_dnewK : PE X (.Dict [] [] pos) tDNewK := fun pins s σ H Q I h =>
  wpAny_Dict_empty ⟨.ref s.heap.objs.size, _, I.laid (a := s.heap.objs.size) (o := .dK []) (t' := s.toks) (fun _ _ q => Heap.get?_push_of_some _ q) (Nat.le_refl _) (dk_empty s.heap I.big), rfl, h _ (I.hok.fresh (Nat.le_refl _))⟩
end

def tPairs : List (TE × TE) → St → Hp → (List (V × V) → Hp → Prop) → Prop
  | [], _, H, Q => Q [] H
  | (tk, tv) :: r, σ, H, Q => tk σ H fun x H1 => tv σ H1 fun y H2 => tPairs r σ H2 fun ps H3 => Q ((x, y) :: ps) H3
abbrev VV : List (V × V) → List (Value × Value) → Prop := Paired fun p q => RelV p.1 q.1 ∧ RelV p.2 q.2
def PPs (X : Cx) (pos : Pos) (keys : List (Option Expr)) (values : List Expr) (trs : List (TE × TE)) : Prop :=
  ∀ (pins : List (Addr × Obj)) (s : Shared) (σ : St) (H : Hp) (Q : List (V × V) → Hp → Prop), Inv X pins σ H s → tPairs trs σ H Q →
    wpAny (model X.prog X.w) X.A (evalPairs (pairTrees keys values X.env pos)) (fun vs s' => ∃ ps H', Inv X pins σ H' s' ∧ VV ps vs ∧ Q ps H') X.xe s
theorem pps_nil {X : Cx} {pos : Pos} : PPs X pos [] [] [] := fun pins s σ H Q I h => pairTrees_nil_walk ⟨[], H, I, .nil, h⟩
theorem pps_cons {X : Cx} {pos : Pos} {k v : Expr} {ks : List (Option Expr)} {vs : List Expr} {tk tv : TE} {trs : List (TE × TE)} (hk : PE X k tk) (hv : PE X v tv) (hr : PPs X pos ks vs trs) :
    PPs X pos (some k :: ks) (v :: vs) ((tk, tv) :: trs) := fun pins s σ H Q I h =>
  pairTrees_cons_walk (thn (hk pins s σ H _ I h) fun u s1 zq => zq.elim fun x H1 I1 rx q1 => thn (hv pins s1 σ H1 _ I1 q1) fun w2 s2 ⟨y, H2, I2, ry, q2⟩ =>
    thn (hr pins s2 σ H2 _ I2 q2) fun ws s3 ⟨ps, H3, I3, rel, q3⟩ => ⟨(x, y) :: ps, H3, I3, .cons ⟨rx, ry⟩ rel, q3⟩)

def mergeK (kvs more : List (Key × V)) : List (Key × V) := more.foldl (fun acc kv => putK acc kv.1 kv.2) kvs
theorem KV.merge : ∀ {more : List (Key × V)} {rs : List (Key × Value)} {kvs : List (Key × V)} {vs : List (Key × Value)}, KV more rs → KV kvs vs → KV (mergeK kvs more) (merged vs rs) := by
  intro more rs kvs vs r
  unfold KV at r
  induction r generalizing kvs vs with
  | nil => intro q; exact q
  | @cons p q ps qs h t ih =>
    intro r0
    have e : KV (putK kvs p.1 p.2) (stored vs q.1 q.2) := by
      have := r0.put p.1 h.2
      rw [← h.1]; exact this
    exact ih e
theorem length_mergeK : ∀ (more kvs : List (Key × V)), (mergeK kvs more).length ≤ kvs.length + more.length
  | [], kvs => by show kvs.length ≤ kvs.length + 0; omega
  | p :: r, kvs => by
    have h1 := length_mergeK r (putK kvs p.1 p.2)
    have h2 := length_putK kvs p.1 p.2
    show (mergeK (putK kvs p.1 p.2) r).length ≤ _
    rw [List.length_cons]; omega
theorem carries_of {P : Program} {w : World} : ∀ {kvs : List (Key × V)} {ws : List (Value × Value)}, VV (kvs.map fun kv => (kV kv.1, kv.2)) ws → ∃ rs, Carries (mixKind P w) ws rs ∧ KV kvs rs
  | [], _, r => by rw [List.map_nil] at r; cases r; exact ⟨[], True.intro, .nil⟩
  | p :: kvs, _, r => by
    rw [List.map_cons] at r
    cases r with
    | @cons a b as bs h t =>
      obtain ⟨rs, c, q⟩ := carries_of (P := P) (w := w) t
      obtain ⟨b1, b2⟩ := b
      exact ⟨(p.1, b2) :: rs, ⟨kV_is h.1, rfl, c⟩, .cons ⟨rfl, h.2⟩ q⟩
def tDisp (trs : List (TE × TE)) : TE := fun σ H Q => ∀ p, H p = none → tPairs trs σ (upd H p (.dK [])) fun ps H2 => H2 p = some (.dK []) ∧ ∃ kvs : List (Key × V), ps = kvs.map (fun kv => (kV kv.1, kv.2)) ∧ kvs.length ≤ 15 ∧ Q (.ref p) (upd H2 p (.dK (mergeK [] kvs)))
theorem pe_disp {X : Cx} {pos : Pos} {keys : List (Option Expr)} {values : List Expr} {trs : List (TE × TE)} (h : PPs X pos keys values trs) (hall : keys.all (·.isSome) = true) (hl : keys.length = values.length) (h0 : keys ≠ [])
    (h15 : keys.length ≤ 15) : PE X (.Dict keys values pos) (tDisp trs) := by
  intro pins s σ H Q I q
  have hn := I.hok.fresh (Nat.le_refl s.heap.objs.size)
  have I1 := I.laid (a := s.heap.objs.size) (o := .dK []) (h' := s.heap.push { cls := .type "dict", data := .dict #[] }) (t' := s.toks) (fun _ _ q => Heap.get?_push_of_some _ q) (Nat.le_refl _) (dk_empty s.heap I.big)
  refine wpAny_Dict_walk (knd := mixKind X.prog X.w) hall hl h0 h15 (thn (h pins _ σ _ _ I1 (q _ hn)) fun ws s2 ⟨ps, H2, I2, rel, e, kvs, ep, lk, q2⟩ => ?_)
  subst ep
  obtain ⟨rs, c, rk⟩ := carries_of (P := X.prog) (w := X.w) rel
  obtain ⟨z, hd, vs0, r0, dd⟩ := dk_of I2.hok e
  cases r0
  refine ⟨rs, c, dd, fun h' dd' hs => ⟨.ref s.heap.objs.size, _, ?_, rfl, q2⟩⟩
  have hz : (mergeK [] kvs).length ≤ sizeLine := by
    have h1 := length_mergeK kvs []
    rw [List.length_nil] at h1
    rw [sizeLine_eq]; omega
  have he : ∃ q, h'.get? s.heap.objs.size = some q := let ⟨q, _, _, hq, _⟩ := dd'; ⟨q, hq⟩
  exact d_write I2 (by rw [e]; exact True.intro) hs he (dk_new hz hd (rk.merge .nil) dd')


structure M1 (X : Cx) (o : Expr) (m : Str) (apos : Pos) (e : Expr) (cpos : Pos) : Prop where
  base : attributeBase o m X.env (eval o X.env) = eval o X.env
  few : ((backTo cpos (starEach [e] X.env)).all (fun x => !x.1) && (backToKw cpos (keywordEach [] X.env)).all (fun x => x.1.isSome)
    && decide (([e] : List Expr).length + ([] : List Keyword).length + (if ([] : List Keyword).isEmpty then 0 else 1) < 30)) = true
  line : (apos.endLine == cpos.line) = true
  trees : backTo cpos (starEach [e] X.env) = [(false, eval e X.env)]
structure M2 (X : Cx) (o : Expr) (m : Str) (apos : Pos) (e f : Expr) (cpos : Pos) : Prop where
  base : attributeBase o m X.env (eval o X.env) = eval o X.env
  few : ((backTo cpos (starEach [e, f] X.env)).all (fun x => !x.1) && (backToKw cpos (keywordEach [] X.env)).all (fun x => x.1.isSome)
    && decide (([e, f] : List Expr).length + ([] : List Keyword).length + (if ([] : List Keyword).isEmpty then 0 else 1) < 30)) = true
  line : (apos.endLine == cpos.line) = true
  trees : backTo cpos (starEach [e, f] X.env) = [(false, eval e X.env), (false, eval f X.env)]

def IsD (H : Hp) (a : Addr) : Prop := (∃ kvs, Rd H a (.dK kvs)) ∨ ∃ kvs, Rd H a (.dT kvs)
theorem isD_at {X : Cx} {pins : List (Addr × Obj)} {σ : St} {H : Hp} {s : Shared} {a : Addr} (I : Inv X pins σ H s) (d : IsD H a) :
    s.TypeIs (.ref a) "dict" ∧ (∀ b, Value.ref a = .ref b → ∃ ob, s.heap.get? b = some ob ∧ ob.dict = none) ∧ (a == sysModules) = false := by
  rcases d with ⟨kvs, e⟩ | ⟨kvs, e⟩
  · obtain ⟨_, hd, vs, _, dd⟩ := dk_rd I.hok e
    refine ⟨dd.typeIs, fun b q => ?_, hd⟩
    cases q
    obtain ⟨ob, _, _, h1, h2, _⟩ := dd
    exact ⟨ob, h1, h2.2.1⟩
  · obtain ⟨_, hd, xs, _, dd⟩ := dt_rd I.hok e
    refine ⟨dd.typeIs, fun b q => ?_, hd⟩
    cases q
    obtain ⟨ob, _, _, h1, h2, _⟩ := dd
    exact ⟨ob, h1, h2.2.1⟩

section
variable {X : Cx} {pins : List (Addr × Obj)} {σ : St} {H : Hp} {s : Shared} {a : Addr} {y d : V} {u r : Value} {o : Option V} {A : Around} {E : Value → Shared → Prop}
end

def tDPop1 (td ty : TE) : TE := fun σ H Q => td σ H fun x H1 => ∃ a, x = .ref a ∧ IsD H1 a ∧ ty σ H1 fun y H2 => ∃ kvs k v, H2 a = some (.dK kvs) ∧ y = kV k ∧ valV kvs k = some v ∧ Q v (upd H2 a (.dK (dropK kvs k)))
section
variable {X : Cx} {o e f : Expr} {apos cpos : Pos} {td ty tx : TE}
theorem pe_dpop1 (ho : PE X o td) (he : PE X e ty) (m : M1 X o "pop" apos e cpos) : PE X (.Call (.Attribute o "pop" apos) [e] [] cpos) (tDPop1 td ty) := by
  intro pins s σ H Q I h
  refine wpAny_Call_method m.base m.few m.line PySem.F.plainAttrs_dict PySem.F.slot_dict_pop PySem.F.type_dict_pop (thn (ho pins s σ H _ I h) fun u s1 ⟨x, H1, I1, rx, a, ex, d, q1⟩ => ?_)
  subst ex
  obtain rfl : u = Value.ref a := rx
  obtain ⟨t1, t2, _⟩ := isD_at I1 d
  refine ⟨t1, t2, ?_⟩
  rw [m.trees]
  refine Calls.callWith_builtin rfl (Calls.evalArgs_plain (Calls.spliced_cons (thn (he pins s1 σ H1 _ I1 q1) fun iv s2 ⟨y, H2, I2, ry, kvs, k, v, ea, ey, l, q2⟩ => Calls.spliced_nil ?_)))
  subst ey
  exact d_pop I2 ea ry l (.inl rfl) fun w' s3 I3 rw' => ⟨v, _, I3, rw', q2⟩
end

section
variable {X : Cx} {pins : List (Addr × Obj)} {σ : St} {H : Hp} {s : Shared} {a : Addr} {kvs : List (Key × V)} {A : Around} {E : Value → Shared → Prop}
theorem d_copyOf {Q : Value → Shared → Prop} (I : Inv X pins σ H s) (e : Rd H a (.dK kvs)) (h : ∀ p s', H p = none → Inv X pins σ (upd H p (.dK kvs)) s' → Q (.ref p) s') : wpAny (model X.prog X.w) A (call (.type "dict") [.ref a]) Q E s := by
  obtain ⟨z, hd, vs, rel, dd⟩ := dk_rd I.hok e
  refine kt_call_dict hd dd (by rw [← rel.length]; exact z) fun h' dd' hs => ?_
  refine h _ _ (I.hok.fresh (Nat.le_refl _)) (I.laid (a := s.heap.objs.size) (o := .dK kvs) (t' := s.toks) (fun b q hq => ?_) (Nat.le_refl _) (dk_new z (beq_eq_false_iff_ne.mpr (Ne.symm (Nat.ne_of_lt I.big))) rel dd'))
  exact (hs.2 b (Nat.ne_of_lt (Heap.lt_size hq))).trans (Heap.get?_push_of_some _ hq)
end


section
variable {X : Cx} {pins : List (Addr × Obj)} {σ : St} {H : Hp} {s : Shared} {a : Addr} {y : V} {u : Value} {A : Around} {E : Value → Shared → Prop}
end
end L2

namespace Att
open PySem PySem.W PySem.Calls PyProof.Rows

theorem ints_of_wellAll {P : Params} {h : Heap} : ∀ (ns : List Int) (vs : List Value), WellAll P h vs (ns.map WData.int) → IntsAre vs ns := by
  intro ns
  induction ns with
  | nil =>
    intro vs w
    rw [List.map_nil] at w
    cases w
    exact .nil
  | cons n ns ih =>
    intro vs w
    rw [List.map_cons] at w
    cases w with
    | cons a b =>
      cases a
      exact .cons _ _ (ih _ b)

theorem script_of {l : OpenLaw} {n : Nat} (hn : l.most = some n) {P : Params} {h : Heap} {args : List WData} {vals : List Value}
    (hpre : l.row.toRowW.claim.pre args = true) (hwl : WellAll P h vals args) :
    ∃ a vs ns, vals = [Value.ref a] ∧ args = [WData.list (ns.map WData.int)] ∧ h.get? a = some { cls := .type "list", data := .seq vs.toArray } ∧ IntsAre vs ns ∧ ns.length ≤ n := by
  have hsh : WShape.hasAll [] args [.list .int] = true := (pre_splitW hpre).1
  have hc : l.pre.holds [] { args := args } = true := (pre_splitW hpre).2
  obtain ⟨d, r, rfl, h1, h2⟩ := hasAllW_cons hsh
  obtain rfl := hasAllW_nil h2
  obtain ⟨xs, rfl, h3⟩ := hasW_list h1
  obtain ⟨ns, rfl⟩ := items_int h3
  have hlen : ns.length ≤ n := by
    unfold OpenLaw.pre at hc
    have h4 : (WTm.not (.lt (.lit (.int (n : Int))) (.len (.arg 0)))).holds [] { args := [.list (ns.map .int)] } = true := by
      have h4 := (holds_andW hc).1
      rw [hn] at h4
      exact h4
    have h5 := condW_of h4 (w_not (w_lt w_lit (w_len_list (w_arg rfl))))
    rw [List.length_map] at h5
    refine Nat.le_of_not_lt fun q => ?_
    have q' : (n : Int) < ((ns.length : Nat) : Int) := by omega
    first
      | (rw [decide_eq_true q'] at h5; exact absurd h5 (by decide))
      | (simp at h5; omega)
  cases hwl with
  | cons w1 w2 =>
    cases w2
    cases w1 with
    | list ho hall => exact ⟨_, _, ns, rfl, rfl, ho, ints_of_wellAll ns _ hall, hlen⟩

theorem post_true (l : OpenLaw) (args : List WData) : l.row.toRowW.claim.post args (.bool true) args = true :=
  postW_of (r := l.row.toRowW) (X := (true == true))
    (show WShape.has [] (.bool true) .bool = true by first | rfl | decide | simp [WShape.has, WShape.arms, WShape.armsAll])
    (show (WTm.eq .res (.lit (.bool true))).value [] { args := args, res := some (.bool true), after := args } = some (.bool (true == true)) from w_eq_bool (w_res rfl) w_lit) rfl

theorem attach_call {l : OpenLaw} {n : Nat} {q : Program} {loose : List Str} {XP : (Str → Option Value) → Heap → Prop} {YP : World → Heap → Prop} {d : DefRec}
    (hn : l.most = some n) (hdf : d.params.defaults = [])
    (call : ∀ (w : World) (s₀ s₁ : Shared) (mg mb : Str → Option Value) (fa : Addr) (o : Obj) (pm cd doc : Value) (a : Addr) (vs : List Value) (ns : List Int),
      Ground q loose [] XP w s₀ mg mb s₁.heap → YP w s₁.heap →
      s₁.heap.get? fa = some o → o.data = .func (docDef d.name d.params d.body d.scope pm cd doc) → s₁.heap.CodeRec cd d.name → mg d.name = some (.ref fa) →
      s₁.heap.get? a = some { cls := .type "list", data := .seq vs.toArray } → IntsAre vs ns → ns.length ≤ n → s₁.gens = #[] →
      codeAny (model l.prog w) callerA (.call (.ref fa) ⟨[.ref a], []⟩) (fun r s' => r = .ok (.ret (.bool true)) ∧ OldK s₁.heap s'.heap ∧ s'.os = s₁.os ∧ AllBare s'.gens) s₁) :
    WalkO q loose XP YP l.row.toRowW d [] (fun f vs => PySem.call f vs) := by
  intro w s₀ s₁ mg mb G Y fa o pm cd doc dV kV ho hd hcd hD hmg hg args vals as hpre hlay hrd hwl hlo
  obtain rfl : dV = .none := Dflts.none hD hdf
  obtain rfl : kV = .none := Dflts.noKw hD
  obtain ⟨a, vs, ns, rfl, rfl, hobj, hints, hlen⟩ := script_of hn hpre hwl
  refine enter_call (codeAny_mono (call w s₀ s₁ mg mb fa o pm cd doc a vs ns G Y ho (fd_plain hd) hcd hmg hobj hints hlen hg) fun r s' hq => ?_)
  obtain ⟨rfl, h2, h3, h4⟩ := hq
  exact ⟨.inl ⟨.bool true, .bool true, [], rfl, fun _ => rfl, .bool true, post_true l _, fun _ => ⟨List.Pairwise.nil, fun _ hm => (nomatch hm)⟩⟩, h2, h3, h4⟩

section
variable {prog : Program} {w : World} {A : Around} {E : Value → Shared → Prop} {s : Shared} {K : Frag}

end
end Att

namespace L2
open PySem PySem.Spec PyProof.Rows

theorem vals_ints {vs : List Value} {ns : List Int} (h : IntsAre vs ns) : Vals (ns.map V.int) vs := by
  induction h with
  | nil => exact .nil
  | cons n t _ ih => exact .cons ⟨t, rfl⟩ ih

def Only (H : Hp) : Prop := ∀ b, H b = none ∨ ∃ o xs, H b = some (.frz o (.lst xs))

theorem law_call {P : Program} {w : World} {K : PySem.W.Frag} {mg mb : Str → Option Value} {CX : CXT} {k : Nat} {fa a : Addr} {fd : FuncData} {x : Str} {sp : Sp} {s₁ : Shared} {vs : List Value} {ns : List Int}
    (KX : K.In s₁.heap) (hns : s₁.heap.Ns mainGlobals mg) (hb : s₁.heap.Ns builtinsNs mb) (hbb : ∀ x : Str, x ≠ "__name__" → mb x = bootBuiltins x) (hlim : s₁.heap.NoLimit) (hg : s₁.gens = #[])
    (ha : s₁.heap.get? a = some { cls := .type "list", data := .seq vs.toArray }) (hi : IntsAre vs ns) (hl : ns.length ≤ sizeLine) (hr : Room k callerA)
    (F : ∀ base : Heap, K.In base → base.Ns mainGlobals mg → FnOk P w K mg base CX k fa fd [x] sp) (hbind : ∀ (s : Shared) (u : Value), BindsTo s fd ⟨[u], []⟩ [(x, u)])
    (hsp : ∀ H : Hp, Only H → SqL K H a (ns.map V.int) → sp [.ref a] H (fun v _ => v = .bl true) fun _ _ _ => False)
    (hCX : ∀ H e s', CX [] H s₁ (fun _ _ _ => False) e s' → False) :
    codeAny (model P w) callerA (.call (.ref fa) ⟨[.ref a], []⟩) (fun r s' => r = .ok (.ret (.bool true)) ∧ OldK s₁.heap s'.heap ∧ s'.os = s₁.os ∧ AllBare s'.gens) s₁ := by
  have rv := vals_ints hi
  have lenV := hi.length
  have core : ∀ H : Hp, Only H → SqL K H a (ns.map V.int) → HOk P w H s₁.heap → (∀ b, H b ≠ none → b = a) → (H a ≠ none → K.lookup a = none) →
      codeAny (model P w) callerA (.call (.ref fa) ⟨[.ref a], []⟩) (fun r s' => r = .ok (.ret (.bool true)) ∧ OldK s₁.heap s'.heap ∧ s'.os = s₁.os ∧ AllBare s'.gens) s₁ := by
    intro H hO hS hok hA hK
    have base_of : ∀ {b : Addr} {o : Obj}, s₁.heap.get? b = some o → H b = none → (hidT s₁.heap H).get? b = some o := fun e n => hidT_get e n
    have noA : ∀ {b : Addr} {o : Obj} {es : Array DictEntry} {ep : Nat}, s₁.heap.get? b = some o → o.data = .dict es ep → H b = none := fun {b o es ep} e d => by
      cases q : H b with
      | none => rfl
      | some u =>
        have e' : b = a := hA b (by rw [q]; simp)
        subst e'
        rw [ha] at e; cases e
        have d' : Data.seq vs.toArray _ = Data.dict es ep := d
        cases d'
    have nsK : ∀ {b : Addr} {m : Str → Option Value}, s₁.heap.Ns b m → (hidT s₁.heap H).Ns b m := fun {b m} ⟨o, es, ep, e, d, r⟩ => ⟨o, es, ep, base_of e (noA e d), d, r⟩
    have hKb : K.In (hidT s₁.heap H) := fun b o e => base_of (KX b o e) (by
      cases q : H b with
      | none => rfl
      | some u =>
        have e' : b = a := hA b (by rw [q]; simp)
        subst e'
        rw [hK (by rw [q]; simp)] at e; cases e)
    have hM : Mod K mg (hidT s₁.heap H) := ⟨hKb, nsK hns, ⟨mb, nsK hb, hbb⟩, let ⟨mc, h1, h2⟩ := hlim; ⟨mc, nsK h1, h2⟩⟩
    have e0 : Env0 P w K mg (hidT s₁.heap H) callerA [] s₁ H := ⟨rfl, hM, fun b o e => of_hidT e, Nat.le_of_eq (hidT_size _ _), trivial, fun b hb => absurd (show b ∈ ([] : List Addr) from hb) (by simp), hok, .of_eq hg⟩
    refine codeAny_mono ((F _ hKb (nsK hns)).run callerA [] s₁ H ⟨[.ref a], []⟩ [.ref a] [.ref a] _ _ hr e0 (hbind s₁ (.ref a)) (.cons rfl .nil) (hsp H hO hS)) fun r s' h => ?_
    cases r with
    | error e => exact (hCX H e s' h).elim
    | ok fl =>
      cases fl with
      | next => exact False.elim h
      | brk => exact False.elim h
      | cont => exact False.elim h
      | ret u =>
        obtain ⟨v, H', os, bare, un, hok', r', q⟩ := h
        have q' : v = .bl true := q
        subst q'
        obtain rfl : u = Value.bool true := r'
        refine ⟨rfl, OldK.of_keep fun b o e => ?_, os, bare⟩
        cases q : H b with
        | none => exact un.keep b o e q (by intro z; exact absurd (show b ∈ ([] : List Addr) from z) (by simp)) (by simp)
        | some u =>
          rcases hO b with z | ⟨ob, xs, z⟩
          · rw [q] at z; cases z
          · have z2 := un.frzs b ob _ z
            obtain ⟨e1, _⟩ := hok b _ z
            obtain ⟨e2, _⟩ := hok' b _ z2
            rw [e] at e1; cases e1
            exact e2
  cases hk : K.lookup a with
  | some o =>
    have e := KX a o hk
    rw [ha] at e
    cases e
    refine core (fun _ => none) (fun _ => .inl rfl) (.inr ⟨_, vs.toArray, _, hk, rfl, rfl, rfl, by rw [List.size_toArray, lenV]; exact hl, by simpa using rv⟩) (fun b u z => by have z' : (none : Option HO) = some u := z; cases z') (fun b z => absurd rfl z) fun z => absurd rfl z
  | none =>
    refine core (fun b => if b = a then some (.frz { cls := .type "list", data := .seq vs.toArray } (.lst (ns.map V.int))) else none) (fun b => ?_) (.inl (.inr ⟨{ cls := .type "list", data := .seq vs.toArray }, if_pos rfl⟩)) (fun b u z => ?_) (fun b z => ?_) fun _ => hk
    · by_cases hb : b = a
      · exact .inr ⟨_, _, if_pos hb⟩
      · exact .inl (if_neg hb)
    · by_cases hb : b = a
      · have z' := (if_pos hb).symm.trans z
        cases z'
        subst hb
        exact ⟨ha, by rw [List.length_map]; exact hl, vs, _, rv, ha⟩
      · have z' := (if_neg hb).symm.trans z
        cases z'
    · by_cases hb : b = a
      · exact hb
      · exact absurd (if_neg hb) z
end L2

namespace L2
open PySem PySem.Spec PyProof.Rows

theorem walk_of {l : PySem.W.OpenLaw} {n k : Nat} {q : Program} {loose : List Str} {XP : (Str → Option Value) → Heap → Prop} {YP : World → Heap → Prop} {d : DefRec} {K : Params → PySem.W.Frag} {CX : World → CXT} {sp : World → Sp} {x : Str}
    (hn : l.most = some n) (hn2 : n ≤ sizeLine) (hdf : d.params.defaults = []) (hr : Room k callerA)
    (hY : ∀ (w : World) (h : Heap), YP w h → (K w.params).In h)
    (F : ∀ (w : World) (mg : Str → Option Value) (fa : Addr) (h : Heap), (K w.params).In h → h.Ns mainGlobals mg → mg d.name = some (.ref fa) →
      ∃ fd : FuncData, (∀ (s : Shared) (u : Value), BindsTo s fd ⟨[u], []⟩ [(x, u)]) ∧
        ∀ base : Heap, (K w.params).In base → base.Ns mainGlobals mg → FnOk l.prog w (K w.params) mg base (CX w) k fa fd [x] (sp w))
    (hsp : ∀ (w : World) (H : Hp) (a : Addr) (ns : List Int), ns.length ≤ n → Only H → SqL (K w.params) H a (ns.map V.int) → sp w [.ref a] H (fun v _ => v = .bl true) fun _ _ _ => False)
    (hCX : ∀ (w : World) (H : Hp) (s : Shared) (e : Value) (s' : Shared), CX w [] H s (fun _ _ _ => False) e s' → False) :
    PySem.W.WalkO q loose XP YP l.row.toRowW d [] (fun f vs => PySem.call f vs) := by
  refine Att.attach_call hn hdf fun w s₀ s₁ mg mb fa o pm cd doc a vs ns G Y ho hd hcd hmg hobj hints hlen hg => ?_
  have KX := hY w _ Y
  obtain ⟨fd, hb, hF⟩ := F w mg fa _ KX G.T.g hmg
  exact law_call KX G.T.g G.T.b G.T.builtins G.T.nolimit hg hobj hints (Nat.le_trans hlen hn2) hr hF hb (fun H hO hS => hsp w H a ns hlen hO hS) fun H e s' => hCX w H s₁ e s'
end L2



namespace L2
open PySem PySem.Spec PyProof.Rows

def defArgs (s : Stmt) : Arguments := match s with
  | .FunctionDef _ a _ _ _ _ _ _ _ _ => a
  | _ => { posonlyargs := [], args := [], vararg := none, kwonlyargs := [], kw_defaults := [], kwarg := none, defaults := [] }
def defBody (s : Stmt) : List Stmt := match s with
  | .FunctionDef _ _ b _ _ _ _ _ _ _ => b
  | _ => []
def defScope (s : Stmt) : Scope := match s with
  | .FunctionDef _ _ _ _ _ _ sc _ _ _ => sc
  | _ => { kind := .function, names := [], isGenerator := false, isCoroutine := false }

abbrev CX0 : CXT := fun _ _ _ _ _ _ => False
abbrev E0 : XK := fun _ _ _ => False
theorem pass0 {X : Cx} : Passes CX0 X E0 := fun _ _ _ _ _ _ _ h => h.elim

structure Fun (K : PySem.W.Frag) (x qual : Str) (st : Stmt) (f : Addr) (fd : FuncData) : Prop where
  ex : ∃ (oc : Value) (od : Option Addr) (kV doc pm : Value) (an : Option Addr) (cdv ct : Value) (osl : Array (Option Value)),
    fd = PySem.W.fnOf x qual (defArgs st) (defBody st) (defScope st) .none kV doc pm an cdv ct ∧ K.lookup f = some ⟨oc, od, .func fd, osl⟩ ∧ PySem.W.codeIn K cdv qual = true
  kp : PySem.W.keepIn K (.ref f) = true
section
variable {P : Program} {w : World} {K : PySem.W.Frag} {mg : Str → Option Value} {base : Heap}
theorem Fun.ok {x qual : Str} {st : Stmt} {f : Addr} {fd : FuncData} {N ps : List Str} {k : Nat} {sp : Sp} (F : Fun K x qual st f fd) (S : FnScope N ps (defScope st)) (len : ∀ vs H Q E, sp vs H Q E → vs.length = ps.length)
    (hbody : ∀ (cdv : Value) (A : Around) (outer : List Env) (s : Shared) (H : Hp) (vs : List V) (Q : VK) (E : XK), Room k (A.deeper (envOfC qual (defScope st) s.heap.objs.size f cdv)) → sp vs H Q E →
      ∃ t, PSs (cxOf CX0 P w K mg base N qual (defScope st) f cdv A outer s H E).nox (defBody st) t ∧ t { nx := fun _ H' => Q .non H', rt := Q } (start N vs) H) : FnOk P w K mg base CX0 (k + 1) f fd ps sp := by
  obtain ⟨oc, od, kV, doc, pm, an, cdv, ct, osl, rfl, lk, hcd⟩ := F.ex
  refine fn_of lk hcd S len fun A outer s H vs Q E hr hsp => ?_
  obtain ⟨t, h, q⟩ := hbody cdv A outer s H vs Q E hr hsp
  exact ⟨t, h.nox, q⟩
theorem Fun.binds {x qual : Str} {st : Stmt} {f : Addr} {fd : FuncData} {ps : List Str} (F : Fun K x qual st f fd)
    (h : ∀ (kV doc pm : Value) (an : Option Addr) (cdv ct : Value) (us : List Value), us.length = ps.length → bindArgs (PySem.W.fnOf x qual (defArgs st) (defBody st) (defScope st) .none kV doc pm an cdv ct) ⟨us, []⟩ = pure (ps.zip us)) : Binds K fd ps [] := by
  obtain ⟨oc, od, kV, doc, pm, an, cdv, ct, osl, rfl, lk, hcd⟩ := F.ex
  exact .all (h kV doc pm an cdv ct)
theorem fun_mk {x qual : Str} {st : Stmt} {f : Addr} {oc : Value} {od an : Option Addr} {osl : Array (Option Value)} {kV doc pm cdv ct : Value} (l : K.lookup f = some ⟨oc, od, .func (PySem.W.fnOf x qual (defArgs st) (defBody st) (defScope st) .none kV doc pm an cdv ct), osl⟩)
    (c : PySem.W.codeIn K cdv qual = true) (k : PySem.W.keepIn K (.ref f) = true) : Fun K x qual st f (PySem.W.fnOf x qual (defArgs st) (defBody st) (defScope st) .none kV doc pm an cdv ct) := ⟨⟨oc, od, kV, doc, pm, an, cdv, ct, osl, rfl, l, c⟩, k⟩
end
theorem hu_of {A : Around} {k : Nat} (hr : Room k A) : A.units + 1 < cLine := Nat.lt_of_le_of_lt (Nat.add_le_add_left (by decide : 1 ≤ 64) _) hr.units
theorem small1000 {n : Nat} (h : n ≤ 1000) : n < sizeLine := Nat.lt_of_le_of_lt h (by decide)

section
variable {X : Cx}
theorem pv (i : Nat) {x : Str} {pos : Pos} (hN : X.N[i]? = some x := by rfl) (hv : Vis X.env.scope x := by first | exact Or.inl rfl | exact Or.inr (Or.inl rfl) | exact Or.inr (Or.inr rfl)) (hd : (x == ("__debug__" : Str)) = false := by decide)
    (hcd : (x == ("__classdict__" : Str)) = false := by decide) : PE X (.Name x pos) (tVar i) := pe_var hN hv hd hcd
inductive r_call_lenDI (xs : List V) (H : Hp) (Q : VK) : Prop
  | mk (a : _) (kvs : _) (h0_ : xs = [V.ref a]) (h1_ : H a = some (.dK kvs)) (h2_ : Q (.int kvs.length) H) : r_call_lenDI xs H Q
end

theorem iteF {A B : Prop} (h : B) : if false = true then A else B := by
  rw [if_neg Bool.false_ne_true]
  exact h
theorem iteT {A B : Prop} (h : A) : if true = true then A else B := by
  rw [if_pos rfl]
  exact h
theorem ite2 {c A B : Prop} [Decidable c] (h1 : c → A) (h2 : ¬ c → B) : if c then A else B := by
  by_cases h : c
  · rw [if_pos h]
    exact h1 h
  · rw [if_neg h]
    exact h2 h
def Same (H H' : Hp) : Prop := ∀ b o, H b = some o → H' b = some o
theorem Same.refl (H : Hp) : Same H H := fun _ _ h => h
theorem Same.trans {H H1 H2 : Hp} (a : Same H H1) (b : Same H1 H2) : Same H H2 := fun c o h => b c o (a c o h)
theorem Same.free {H H' : Hp} (e : Same H H') {l : Addr} (h : H' l = Option.none) : H l = Option.none := by
  cases q : H l with
  | none => rfl
  | some o =>
    rw [e l o q] at h
    cases h
theorem Same.seq {K : PySem.W.Frag} {H H' : Hp} {a : Addr} {xs : List V} (e : Same H H') (h : SqL K H a xs) : SqL K H' a xs := by
  rcases h with (h | ⟨o, h⟩) | h
  · exact .inl (.inl (e _ _ h))
  · exact .inl (.inr ⟨o, e _ _ h⟩)
  · exact .inr h

section
variable {κ : Type} [DecidableEq κ]
theorem valV_not {kvs : List (κ × V)} {k : κ} (h : valV kvs k = none) : ¬ k ∈ kvs.map (·.1) := by
  intro m
  obtain ⟨p, hp, e⟩ := List.mem_map.mp m
  have q : (kvs.any fun kv => decide (kv.1 = k)) = true := List.any_eq_true.mpr ⟨p, hp, decide_eq_true e⟩
  rw [valV_any, h] at q
  exact absurd q (by simp)
theorem valV_in {kvs : List (κ × V)} {k : κ} {v : V} (h : valV kvs k = some v) : k ∈ kvs.map (·.1) := by
  have q : (kvs.any fun kv => decide (kv.1 = k)) = true := by
    rw [valV_any, h]
    all_goals rfl
  obtain ⟨p, hp, e⟩ := List.any_eq_true.mp q
  exact List.mem_map.mpr ⟨p, hp, of_decide_eq_true e⟩
theorem dropK_pos {p : κ × V} {r : List (κ × V)} {k : κ} (e : p.1 = k) : dropK (p :: r) k = dropK r k := by
  unfold dropK
  rw [List.filter_cons, if_neg (by simp [e])]
theorem dropK_neg {p : κ × V} {r : List (κ × V)} {k : κ} (e : ¬ p.1 = k) : dropK (p :: r) k = p :: dropK r k := by
  unfold dropK
  rw [List.filter_cons, if_pos (by simp [e])]
end
end L2

set_option Elab.async false
set_option linter.all false
set_option maxRecDepth 100000
set_option maxHeartbeats 4000000
namespace L2
open PySem PySem.Spec PyProof.Rows
theorem comp_turns {prog : Program} {w : World} {A : Around} {R : Result → Shared → Prop} {elt tg iter : Expr} {ifs : List Expr} {scope : Scope} {pos : Pos} {it acc : Value} {env : Env} (Iv : Nat → Shared → Prop)
    (step : ∀ n s, Iv n s → wpAny (model prog w) A (pyNext it) (fun r s1 => match r with
      | none => R (.ok .next) s1
      | some v => wpAny (model prog w) A (letOwnedTupleGo tg it v) (fun _ s2 => wpAny (model prog w) A (assign tg env v) (fun _ s3 =>
          wpAny (model prog w) A (forIn ifs true fun c r => if r = true then do let ok ← isTrue c env (eval c env); pure (ForInStep.yield ok) else pure (ForInStep.yield r)) (fun ok s4 =>
            if ok = true then wpAny (model prog w) A (eval elt env) (fun y s5 => wpAny (model prog w) A (call (.builtin "list.append") [acc, y]) (fun _ s6 => ∃ m, m < n ∧ Iv m s6) (fun _ _ => False) s5) (fun _ _ => False) s4
            else ∃ m, m < n ∧ Iv m s4) (fun _ _ => False) s3) (fun _ _ => False) s2) (fun _ _ => False) s1) (fun _ _ => False) s)
    (n : Nat) {s : Shared} (h : Iv n s) : codeAny (model prog w) A (.compLoop (.ListComp elt [⟨tg, iter, ifs, 0⟩] scope pos) 0 it acc env) R s := by
  have up : ∀ {α : Type} {t : Sem α} {Q : α → Shared → Prop} {E : Value → Shared → Prop} {s : Shared}, wpAny (model prog w) A t Q (fun _ _ => False) s → wpAny (model prog w) A t Q E s :=
    fun h => wpAny_mono h (fun _ _ q => q) fun _ _ z => z.elim
  refine codeAny_loop rfl Iv (fun k s hI => ?_) n h
  show wpAny _ A ((compTurn (.ListComp elt [⟨tg, iter, ifs, 0⟩] scope pos) 0 it acc env).onRaise (fun x => do noteFrame x env; theTreesLotGoes x)) _ _ s
  refine wpAny_noted ?_
  rw [compTurn_list]
  refine wpAny_bind (wpAny_standAt (wpAny_bind (wpAny_mono (up (step k s hI)) (fun r s1 h1 => ?_) fun _ _ z => z)))
  cases r with
  | none => exact wpAny_pure h1
  | some v =>
    refine wpAny_bind (wpAny_mono (up h1) (fun _ s2 h2 => ?_) fun _ _ z => z)
    refine wpAny_bind (wpAny_mono (up h2) (fun _ s3 h3 => ?_) fun _ _ z => z)
    refine wpAny_bind (wpAny_mono (up h3) (fun ok s4 h4 => ?_) fun _ _ z => z)
    cases ok with
    | false => exact wpAny_pure ⟨rfl, h4⟩
    | true =>
      have h4 : wpAny (model prog w) A (eval elt env) (fun y s5 => wpAny (model prog w) A (call (.builtin "list.append") [acc, y]) (fun _ s6 => ∃ m, m < k ∧ Iv m s6) (fun _ _ => False) s5) (fun _ _ => False) s4 := h4
      exact wpAny_bind (wpAny_bind (wpAny_mono (up h4) (fun y s5 h5 => wpAny_bind (wpAny_mono (up h5) (fun _ s6 h6 => wpAny_pure (wpAny_pure ⟨rfl, h6⟩)) fun _ _ z => z)) fun _ _ z => z))

def closL (cells : List (Str × Addr)) : List (Str × NameKind) → List (Str × Addr) → List (Str × Addr)
  | [], acc => acc
  | (n, k) :: r, acc => if k == .free then closL cells r ((n, (cells.lookup n).getD 0) :: acc) else closL cells r acc
theorem closL_lookup {cells : List (Str × Addr)} {x : Str} {c : Addr} : ∀ (names : List (Str × NameKind)) (acc : List (Str × Addr)), (∀ p ∈ names, p.2 = .free → ∃ c, cells.lookup p.1 = some c) →
    (∀ y d, acc.lookup y = some d → cells.lookup y = some d) → (closL cells names acc).lookup x = some c → cells.lookup x = some c
  | [], acc, _, h2, h => h2 x c h
  | (n, k) :: r, acc, h1, h2, h => by
    unfold closL at h
    by_cases hk : (k == NameKind.free) = true
    · rw [if_pos hk] at h
      have ek : k = .free := by simpa using hk
      obtain ⟨d, hd⟩ := h1 (n, k) List.mem_cons_self ek
      refine closL_lookup r _ (fun p hp => h1 p (List.mem_cons_of_mem _ hp)) (fun y e hy => ?_) h
      rw [List.lookup_cons] at hy
      cases hyn : y == n with
      | true =>
        rw [hyn] at hy
        have : y = n := by simpa using hyn
        subst this
        have hd' : List.lookup y cells = some d := hd
        rw [hd'] at hy ⊢
        exact hy
      | false =>
        rw [hyn] at hy
        exact h2 y e hy
    · rw [if_neg hk] at h
      exact closL_lookup r acc (fun p hp => h1 p (List.mem_cons_of_mem _ hp)) h2 h
theorem closL_has {cells : List (Str × Addr)} {x : Str} : ∀ (names : List (Str × NameKind)) (acc : List (Str × Addr)), ((acc.lookup x).isSome = true ∨ (x, NameKind.free) ∈ names) → ((closL cells names acc).lookup x).isSome = true
  | [], acc, h => h.elim (fun z => z) fun z => nomatch z
  | (n, k) :: r, acc, h => by
    unfold closL
    by_cases hk : (k == NameKind.free) = true
    · rw [if_pos hk]
      refine closL_has r _ ?_
      rcases h with h | h
      · refine .inl ?_
        rw [List.lookup_cons]
        cases x == n <;> simp [h]
      · rcases List.mem_cons.mp h with e | e
        · refine .inl ?_
          have : x = n := congrArg Prod.fst e
          subst this
          rw [List.lookup_cons]
          simp
        · exact .inr e
    · rw [if_neg hk]
      refine closL_has r _ ?_
      rcases h with h | h
      · exact .inl h
      · rcases List.mem_cons.mp h with e | e
        · have : NameKind.free = k := congrArg Prod.snd e
          subst this
          exact absurd rfl hk
        · exact .inr e
theorem closureFor_closL {scope : Scope} {env : Env} (h : ∀ p ∈ scope.names, p.2 = .free → ∃ c, env.cells.lookup p.1 = some c) : closureFor scope env = pure (closL env.cells scope.names []) := by
  have go : ∀ (names : List (Str × NameKind)) (acc : List (Str × Addr)), (∀ p ∈ names, p.2 = .free → ∃ c, env.cells.lookup p.1 = some c) →
      (forIn names acc (fun (x : Str × NameKind) r => if (x.2 == NameKind.free) = true then do let a ← cellOf env x.1; pure (ForInStep.yield ((x.1, a) :: r)) else pure (ForInStep.yield r)) : Sem (List (Str × Addr))) = pure (closL env.cells names acc) := by
    intro names
    induction names with
    | nil => intro acc _; rfl
    | cons p r ih =>
      intro acc h1
      obtain ⟨n, k⟩ := p
      rw [List.forIn_cons]
      unfold closL
      by_cases hk : (k == NameKind.free) = true
      · have ek : k = .free := by simpa using hk
        obtain ⟨c, hc⟩ := h1 (n, k) List.mem_cons_self ek
        have hc : List.lookup n env.cells = some c := hc
        have e : cellOf env n = pure c := by unfold cellOf; rw [hc]
        simp only [hk, if_true, e, hc, Option.getD_some]
        exact ih _ fun p hp => h1 p (List.mem_cons_of_mem _ hp)
      · simp only [hk, if_false]
        exact ih _ fun p hp => h1 p (List.mem_cons_of_mem _ hp)
  unfold closureFor
  exact Eq.trans (congrArg (fun t : Sem (List (Str × Addr)) => t >>= fun cs => pure cs) (go scope.names [] h)) rfl
end L2

namespace L2
open PySem PySem.Spec PyProof.Rows
def relG (env : Env) (n : Str) (k : NameKind) : NameKind := if (k == .free && env.scope.kind == .function && env.kindOf n == some .cell) = true then .cell else k
theorem lookup_kinds {g : Str → NameKind → NameKind} (y : Str) : ∀ names : List (Str × NameKind), (names.map fun p => (p.1, g p.1 p.2)).lookup y = (names.lookup y).map (g y)
  | [] => rfl
  | (n, k) :: r => by
    rw [List.map_cons, List.lookup_cons, List.lookup_cons]
    cases e : y == n with
    | true =>
      have : y = n := by simpa using e
      subst this
      rfl
    | false => exact lookup_kinds y r
theorem relabel_lookup (scope : Scope) (env : Env) (y : Str) : (relabel scope env).names.lookup y = (scope.names.lookup y).map (relG env y) := by
  have e : (relabel scope env).names = scope.names.map fun p => (p.1, relG env p.1 p.2) := by
    unfold relabel
    refine List.map_congr_left fun p _ => ?_
    obtain ⟨n, k⟩ := p
    show (if (k == NameKind.free && env.scope.kind == .function && env.kindOf n == some .cell) = true then (n, NameKind.cell) else (n, k)) = (n, if (k == NameKind.free && env.scope.kind == .function && env.kindOf n == some .cell) = true then NameKind.cell else k)
    by_cases h : (k == NameKind.free && env.scope.kind == .function && env.kindOf n == some .cell) = true
    · rw [if_pos h, if_pos h]
    · rw [if_neg h, if_neg h]
  rw [e]
  exact lookup_kinds y _
def pickS (σ : St) (fs : List Nat) : St := fs.map fun i => (σ[i]?).join
theorem pickS_get {σ : St} {fs : List Nat} {j : Nat} {v : V} (h : (pickS σ fs)[j]? = some (some v)) : ∃ i, fs[j]? = some i ∧ σ[i]? = some (some v) := by
  unfold pickS at h
  rw [List.getElem?_map] at h
  cases e : fs[j]? with
  | none => rw [e] at h; cases h
  | some i =>
    rw [e] at h
    refine ⟨i, rfl, ?_⟩
    have h' : (σ[i]?).join = some v := Option.some.inj h
    cases e2 : σ[i]? with
    | none => rw [e2] at h'; cases h'
    | some o =>
      rw [e2] at h'
      have h' : o = some v := h'
      rw [h']
structure CompOk (X : Cx) (scope : Scope) (x : Str) (fv : List Str) (fs : List Nat) : Prop where
  kind : scope.kind = .function
  nocell : ∀ p ∈ scope.names, p.2 ≠ .cell
  names : ∀ p ∈ scope.names, p.2 = .local → scope.names.lookup p.1 = some .local
  tg : scope.names.lookup x = some .local
  free : ∀ p ∈ scope.names, p.2 = .free → X.env.scope.names.lookup p.1 = some .cell
  nd : (x :: fv).Nodup
  fvs : ∀ (j : Nat) y, fv[j]? = some y → ∃ i, fs[j]? = some i ∧ X.N[i]? = some y ∧ scope.names.lookup y = some .free
  len : fv.length = fs.length
def compChk (sc : Scope) (N : List Str) (scope : Scope) (x : Str) (fv : List Str) (fs : List Nat) : Bool :=
  scope.kind == .function && (scope.names.all fun p => p.2 != .cell) && (scope.names.all fun p => p.2 != .local || scope.names.lookup p.1 == some .local) && scope.names.lookup x == some .local &&
  (scope.names.all fun p => p.2 != .free || sc.names.lookup p.1 == some .cell) && decide (x :: fv).Nodup && fs.map (N[·]?) == fv.map some && (fv.all fun y => scope.names.lookup y == some .free)
theorem CompOk.of {X : Cx} {scope : Scope} {x : Str} {fv : List Str} {fs : List Nat} (h : compChk X.env.scope X.N scope x fv fs = true) : CompOk X scope x fv fs := by
  unfold compChk at h
  simp only [Bool.and_eq_true, List.all_eq_true, Bool.or_eq_true, bne_iff_ne, beq_iff_eq, decide_eq_true_eq] at h
  obtain ⟨⟨⟨⟨⟨⟨⟨h1, h2⟩, h3⟩, h4⟩, h5⟩, h6⟩, h7⟩, h8⟩ := h
  have hlen : fs.length = fv.length := by
    have := congrArg List.length h7
    simpa using this
  refine ⟨h1, h2, fun p hp hk => (h3 p hp).resolve_left fun z => z hk, h4, fun p hp hk => (h5 p hp).resolve_left fun z => z hk, h6, fun j y e => ?_, hlen.symm⟩
  have hj : j < fv.length := (List.getElem?_eq_some_iff.mp e).1
  have e7 := congrArg (fun l => l[j]?) h7
  simp only [List.getElem?_map, e] at e7
  have hj' : j < fs.length := by omega
  rw [List.getElem?_eq_getElem hj'] at e7
  refine ⟨fs[j], List.getElem?_eq_getElem hj', ?_, h8 y (List.mem_of_getElem? e)⟩
  simpa using e7
abbrev compX (X : Cx) (N' : List Str) (scope : Scope) (C : Addr) (s0 : Shared) (H0 : Hp) (fp : List Addr) : Cx where
  prog := X.prog
  w := X.w
  K := X.K
  mg := X.mg
  base := X.base
  A := X.A
  N := N'
  s₀ := s0
  H₀ := H0
  env := compEnvC scope (closL X.env.cells scope.names []) C X.env
  outer := X.stack
  stack := X.stack
  ex := fp
  fn := fun _ => false
  calm := X.calm
  pn := []
  xe := fun _ _ => False
section
variable {X : Cx} {pins : List (Addr × Obj)} {σ : St} {H H' : Hp} {s s' : Shared} {scope : Scope} {x : Str} {fv : List Str} {fs : List Nat} {fp : List Addr}
theorem CompOk.cells (ok : CompOk X scope x fv fs) (I : Inv X pins σ H s) : ∀ p ∈ scope.names, p.2 = .free → ∃ c, X.env.cells.lookup p.1 = some c := fun p hp hk => I.ok.has p.1 (.inl (ok.free p hp hk))
theorem CompOk.look (ok : CompOk X scope x fv fs) (I : Inv X pins σ H s) {y : Str} {c : Addr} (h : (closL X.env.cells scope.names []).lookup y = some c) : X.env.cells.lookup y = some c :=
  closL_lookup scope.names [] (ok.cells I) (fun _ _ z => by cases z) h
theorem comp_enter (ok : CompOk X scope x fv fs) (I : Inv X pins σ H s) (hf : ∀ b ∈ fp, FpOk X pins H b) (hfo : ∀ b ∈ fp, ∃ o, s.heap.get? b = some o) {h1 : Heap} {m : Str → Option Value} {tk : Nat} (hn : h1.Ns s.heap.objs.size m)
    (kept : ∀ b o, s.heap.get? b = some o → h1.get? b = some o) : Inv (compX X (x :: fv) scope s.heap.objs.size s H fp) [] (none :: pickS σ fs) H { s with heap := h1, toks := tk } := by
  have cl := fun {y c} => ok.look I (y := y) (c := c)
  have hkk : X.env.scope.kind = .function := I.ok.kind
  refine ⟨⟨I.ok.mod, ok.kind, I.ok.glob, I.ok.blt, Nat.le_refl _, fun y z c h1 h2 => I.ok.inj y z c (cl h1) (cl h2), fun y hy => ?_, fun y c hfn _ => (by cases hfn), I.ok.hd, I.ok.frames, .inl rfl, fun b hb => ⟨?_, fun y c e z => (hf b hb).2.2.2.2.1 y c (cl e) z⟩, I.bs,
    Nat.le_trans I.ok.bsz I.sz, fun b o e hb => ?_, fun b hb hbf => ?_, I.stack, I.stkFree⟩, rfl, I.bare, Un.kept kept, ⟨m, hn, fun i y v e1 e2 e3 => ?_⟩, fun y c e => ?_, I.fresh, fun y c e => I.freeC y c (cl e), fun p hp => absurd (show p ∈ ([] : List (Addr × Obj)) from hp) (by simp), I.hok.kept kept, ?_⟩
  · have hy : (relabel scope X.env).names.lookup y = some .cell ∨ (relabel scope X.env).names.lookup y = some .free := hy
    rw [relabel_lookup] at hy
    have hfr : scope.names.lookup y = some .free := by
      cases e : scope.names.lookup y with
      | none => rw [e] at hy; rcases hy with z | z <;> cases z
      | some k =>
        rw [e] at hy
        have hy : relG X.env y k = .cell ∨ relG X.env y k = .free := hy.elim (fun z => .inl (Option.some.inj z)) fun z => .inr (Option.some.inj z)
        by_cases hk : k = .free
        · rw [hk]
        · have e2 : relG X.env y k = k := by
            unfold relG
            have : (k == NameKind.free) = false := by simpa using hk
            rw [this]
            rfl
          rw [e2] at hy
          rcases hy with z | z
          · subst z
            exact absurd rfl (ok.nocell _ (PySem.mem_of_lookup e))
          · exact absurd z hk
    exact Option.isSome_iff_exists.mp (closL_has scope.names [] (.inr (PySem.mem_of_lookup hfr)))
  · obtain ⟨o, ho⟩ := hfo b hb
    exact Nat.ne_of_lt (Heap.lt_size ho)
  · rcases (hf b hb).2.2.2.1 with z | z
    · exact I.ok.noex b o e z
    · exact absurd (Nat.lt_of_lt_of_le (Heap.lt_size e) (Nat.le_trans I.ok.bsz z)) (Nat.lt_irrefl _)
  · rcases List.mem_cons.mp (I.stkSub b hbf) with z | z
    · exact (hf b hb).2.1 z
    · exact (hf b hb).2.2.1 z
  · cases i with
    | zero =>
      have e2 : (some none : Option (Option V)) = some (some v) := e2
      cases e2
    | succ j =>
      have e1 : fv[j]? = some y := e1
      have e2 : (pickS σ fs)[j]? = some (some v) := e2
      obtain ⟨i, g1, g2⟩ := pickS_get e2
      obtain ⟨i', g3, g4, g5⟩ := ok.fvs j y e1
      rw [g1] at g3
      cases g3
      have gk : X.env.scope.names.lookup y = some .cell := ok.free (y, .free) (PySem.mem_of_lookup g5) rfl
      obtain ⟨m0, _, hl0⟩ := I.loc
      obtain ⟨u, r, l⟩ := hl0 i y v g4 g2 (.inr (.inl gk))
      refine ⟨u, r, ?_⟩
      rcases l with ⟨k, _⟩ | ⟨_, c, e, o, ho, hd⟩
      · have k : X.env.scope.names.lookup y = some .local := k
        rw [gk] at k
        cases k
      · obtain ⟨c', hc'⟩ := Option.isSome_iff_exists.mp (closL_has (cells := X.env.cells) scope.names [] (.inr (PySem.mem_of_lookup g5)))
        have := cl hc'
        rw [e] at this
        cases this
        refine .inr ⟨.inl ?_, c, hc', o, kept _ _ ho, hd⟩
        show (relabel scope X.env).names.lookup y = some .cell
        rw [relabel_lookup, g5]
        show some (relG X.env y .free) = _
        have gk' : X.env.kindOf y = some .cell := gk
        unfold relG
        rw [hkk, gk']
        rfl
  · obtain ⟨v, o, ho, hd⟩ := I.cell y c (cl e)
    exact ⟨v, o, kept _ _ ho, hd⟩
  · show (none :: pickS σ fs).length = (x :: fv).length
    simp [pickS, ok.len]
theorem comp_leave {σ' : St} {C : Addr} {N' : List Str} (I : Inv X pins σ H s) (hf : ∀ b ∈ fp, FpOk X pins H b) (I' : Inv (compX X N' scope C s H fp) [] σ' H' s') : Inv X pins σ H' s' :=
  I.call' (ch := fp) I'.os I'.base I'.hok I'.bare fun b hb => ⟨(hf b hb).2.2.2.1, (hf b hb).2.1, (hf b hb).2.2.2.2.1, (hf b hb).2.2.2.2.2⟩
theorem Inv.off {C : Addr} {h' : Heap} (I : Inv X pins σ H s) (f : FpOk X pins H C) (hs : Heap.SameBut C s.heap h') : Inv X pins σ H { s with heap := h' } :=
  I.turned (t' := s.toks) (fun b o hb e => hs.extBut b o hb e) f.1 (fun z => f.2.1 z) f.2.2.2.1 f.2.2.2.2.1 f.2.2.2.2.2
end

def PTs (X : Cx) (ifs : List Expr) (t : TT) : Prop :=
  ∀ (pins : List (Addr × Obj)) (s : Shared) (σ : St) (H : Hp) (Q : Bool → Hp → Prop), Inv X pins σ H s → t σ H Q →
    wpAny (model X.prog X.w) X.A (forIn ifs true fun c r => if r = true then do let ok ← isTrue c X.env (eval c X.env); pure (ForInStep.yield ok) else pure (ForInStep.yield r)) (TP X pins σ Q) X.xe s
def tYes : TT := fun _ H Q => Q true H
theorem pts_nil {X : Cx} : PTs X [] tYes := fun _ _ _ H _ I h => wpAny_tests_nil ⟨H, I, h⟩
theorem pts_one {X : Cx} {c : Expr} {t : TT} (h : PT X c t) : PTs X [c] t := fun pins s σ H Q I q => wpAny_tests_one (h pins s σ H Q I q)

def CompRd (J : It) (tc : TT) (te : TE) (fs : List Nat) (σ : St) (H : Hp) (Q : VK) : Prop := ∀ D, H D = none → ∃ W : Nat → Nat → Hp → Prop, (∃ m, W 0 m (upd H D (.lst []))) ∧ ∀ i m H2, W i m H2 →
  (J.stop i H2 ∧ Q (.ref D) H2) ∨ (J.go i H2 ∧ ∀ v H3, J.yld i H2 v H3 → tc (some v :: pickS σ fs) H3 fun ok H4 =>
    if ok = true then te (some v :: pickS σ fs) H4 fun y H5 => ∃ ys, H5 D = some (.lst ys) ∧ ys.length < sizeLine ∧ ∃ m', m' < m ∧ W (i + 1) m' (upd H5 D (.lst (ys ++ [y]))) else ∃ m', m' < m ∧ W (i + 1) m' H4)
def tComp (wi : TI) (tc : TT) (te : TE) (fs : List Nat) : TE := fun σ H Q => wi σ H fun J H1 => CompRd J tc te fs σ H1 Q
section
variable {X : Cx} {elt iter : Expr} {x : Str} {px pos : Pos} {ifs : List Expr} {scope : Scope} {fv : List Str} {fs : List Nat} {wi : TI} {te : TE} {tc : TT}
theorem comp_run (hc : X.calm = true) (ok : CompOk X scope x fv fs) (hts : ∀ C s0 H0 fp, PTs (compX X (x :: fv) scope C s0 H0 fp) ifs tc) (he : ∀ C s0 H0 fp, PE (compX X (x :: fv) scope C s0 H0 fp) elt te)
    {pins : List (Addr × Obj)} {σ : St} {H : Hp} {s : Shared} {E : Value → Shared → Prop} {it : Addr} {fp : List Addr} {tn : Nat → Heap → Prop} {J : It} {Q : VK} (I : Inv X pins σ H s) (T : Turn X.prog X.w X.K (.Name x px) J fp it tn) (st : tn 0 s.heap)
    (hf : ∀ b ∈ fp, FpOk X pins H b)
    (rd : CompRd J tc te fs σ H Q)
    {RR : Value → Addr → Result → Shared → Prop}
    (hRR : ∀ D C s' H', Inv X pins σ H' s' → FpOk X pins H' C → (∃ m, s'.heap.Ns C m) → Q (.ref D) H' → RR (.ref D) C (.ok .next) s') :
    wpAny (model X.prog X.w) X.A (newList []) (fun acc s3 => wpAny (model X.prog X.w) X.A (newFunctionEnv scope X.env.globals (closL X.env.cells scope.names []) [] X.env.qual none .none (some X.env)) (fun cenv s4 =>
      codeAny (model X.prog X.w) X.A (.compStart (.ListComp elt [⟨.Name x px, iter, ifs, 0⟩] scope pos) 0 (.ref it) acc { cenv with scope := relabel scope X.env }) (RR acc cenv.locals) s4) E s3) E s := by
  obtain ⟨W, ⟨m0, w0⟩, turn⟩ := rd s.heap.objs.size I.fresh
  have I3 : Inv X pins σ (upd H s.heap.objs.size (.lst [])) { s with heap := s.heap.push { cls := .type "list", dict := none, data := .seq ([] : List Value).toArray } } := I.lnew (its := []) (ys := []) (t' := s.toks) .nil (Nat.zero_le _)
  refine wpAny_newObj_type ?_
  show wpAny _ _ _ _ _ ({ s with heap := s.heap.push { cls := .type "list", dict := none, data := .seq ([] : List Value).toArray } } : Shared)
  generalize hs3 : ({ s with heap := s.heap.push { cls := .type "list", dict := none, data := .seq ([] : List Value).toArray } } : Shared) = s3 at I3 ⊢
  refine wpAny_newFunctionEnv ok.nocell (fun y hy => absurd hy (by simp)) (fun h1 hns hsb => ?_) ok.kind
  have eh : s3.heap = s.heap.push { cls := .type "list", dict := none, data := .seq ([] : List Value).toArray } := by rw [← hs3]
  have up3 : ∀ b o, s.heap.get? b = some o → s3.heap.get? b = some o := fun b o e => by rw [eh]; exact Heap.get?_push_of_some _ e
  have hfo : ∀ b ∈ fp, ∃ o, s3.heap.get? b = some o := fun b hb => let ⟨o, ho, _⟩ := T.obj 0 _ st b hb; ⟨o, up3 b o ho⟩
  have neD : ∀ b ∈ fp, b ≠ s.heap.objs.size := fun b hb => let ⟨o, ho, _⟩ := T.obj 0 _ st b hb; Nat.ne_of_lt (Heap.lt_size ho)
  have hf3 : ∀ b ∈ fp, FpOk X pins (upd H s.heap.objs.size (.lst [])) b := fun b hb => ⟨by rw [upd_ne (neD b hb)]; exact (hf b hb).1, (hf b hb).2⟩
  have kept : ∀ b o, s3.heap.get? b = some o → h1.get? b = some o := fun b o e => hsb.extBut b o (Nat.ne_of_lt (Heap.lt_size e)) (Heap.get?_push_of_some _ e)
  have I4 := comp_enter (tk := s3.toks + ([] : List (Str × Value)).length) ok I3 hf3 hfo hns kept
  have st4 : tn 0 h1 := T.keep 0 _ _ st fun b hb o e => kept b o (up3 b o e)
  have stat : ∀ {H' : Hp}, (∀ b ∈ fp, H' b = none) → ∀ b ∈ fp, FpOk (compX X (x :: fv) scope s3.heap.objs.size s3 (upd H s.heap.objs.size (.lst [])) fp) [] H' b := fun hn b hb =>
    ⟨hn b hb, (I4.ok.exf b hb).1, I4.ok.exfs b hb, .inl hb, (I4.ok.exf b hb).2, fun p hp => absurd hp (by simp)⟩
  have hg : PG (compX X (x :: fv) scope s3.heap.objs.size s3 (upd H s.heap.objs.size (.lst [])) fp) (.Name x px) (gName 0) := pg_name ok.nd rfl (.inl (lookup_relabel_local ok.tg)) (.inr (lookup_relabel_local ok.tg))
  have loop : codeAny (model X.prog X.w) X.A (.compLoop (.ListComp elt [⟨.Name x px, iter, ifs, 0⟩] scope pos) 0 (.ref it) (.ref s.heap.objs.size) (compEnvC scope (closL X.env.cells scope.names []) s3.heap.objs.size X.env)) (RR (.ref s.heap.objs.size) s3.heap.objs.size)
      { s3 with heap := h1, toks := s3.toks + ([] : List (Str × Value)).length } := by
    refine comp_turns (fun n s' => ∃ i o H', Inv (compX X (x :: fv) scope s3.heap.objs.size s3 (upd H s.heap.objs.size (.lst [])) fp) [] (o :: pickS σ fs) H' s' ∧ tn i s'.heap ∧ (∀ b ∈ fp, H' b = none) ∧ W i n H') ?_ m0
      ⟨0, none, _, I4, st4, fun b hb => (hf3 b hb).1, w0⟩
    rintro n s5 ⟨i, o, H5, I5, st5, fr5, w5⟩
    rcases turn i n H5 w5 with ⟨stop, q⟩ | ⟨go, step⟩
    · refine thn (T.done (compX X (x :: fv) scope s3.heap.objs.size s3 (upd H s.heap.objs.size (.lst [])) fp) rfl rfl rfl hc i [] s5 _ H5 _ I5 (stat fr5) st5 stop) fun r s6 ⟨hr, I6⟩ => ?_
      subst hr
      obtain ⟨m, hm, _⟩ := I6.loc
      exact hRR _ _ s6 H5 (comp_leave I3 hf3 I6) (I3.fpOk (Nat.le_refl _) I6.free) ⟨m, hm⟩ q
    · refine thn (T.item (compX X (x :: fv) scope s3.heap.objs.size s3 (upd H s.heap.objs.size (.lst [])) fp) rfl rfl rfl hc i [] s5 _ H5 _ I5 (stat fr5) st5 go) fun r s6 ⟨u, hr, h6⟩ => ?_
      subst hr
      refine thn h6 fun _ s7 ⟨v, H7, I7, r7, y7, st7, fr7⟩ => ?_
      have I7' := I7.pinned (stat fr7) (T.obj _ _ st7)
      have back : ∀ {σ9 : St} {H9 : Hp} {s9 : Shared}, Inv (compX X (x :: fv) scope s3.heap.objs.size s3 (upd H s.heap.objs.size (.lst [])) fp) ([] ++ pinsAt fp s7.heap) σ9 H9 s9 → tn (i + 1) s9.heap ∧ ∀ b ∈ fp, H9 b = none := fun {σ9 H9 s9} I9 =>
        ⟨T.keep _ _ _ st7 fun b hb o e => (I9.pin (b, o) (mem_pinsAt hb e)).1, fun b hb => by
          obtain ⟨o, e, _⟩ := T.obj _ _ st7 b hb
          exact (I9.pin (b, o) (mem_pinsAt hb e)).2.1⟩
      refine thn (hg _ s7 _ H7 v u (fun σ2 H2 => σ2 = some v :: pickS σ fs ∧ H2 = H7) I7' r7 ⟨rfl, rfl⟩) fun _ s8 ⟨σ8, H8, I8, e8, e8'⟩ => ?_
      subst e8 e8'
      refine thn (hts _ _ _ _ _ s8 _ H8 _ I8 (step v H8 y7)) fun ok s9 ⟨H9, I9, q9⟩ => ?_
      cases ok with
      | false =>
        obtain ⟨m', hm', w9⟩ := q9
        obtain ⟨b1, b2⟩ := back I9
        exact ⟨m', hm', i + 1, some v, H9, I9.unpinned, b1, b2, w9⟩
      | true =>
        refine thn (he _ _ _ _ _ s9 _ H9 _ I9 q9) fun y s10 ⟨yv, H10, I10, r10, ys, hD, hz, m', hm', w10⟩ => ?_
        refine thn (mt_append _ s10 _ H10 (.ref s.heap.objs.size) [yv] (.ref s.heap.objs.size) [y] (fun _ H' => H' = upd H10 s.heap.objs.size (.lst (ys ++ [yv]))) I10 rfl (.cons r10 .nil) ⟨_, ys, yv, rfl, rfl, hD, hz, rfl⟩) fun _ s11 ⟨_, H11, I11, _, e11⟩ => ?_
        subst e11
        obtain ⟨b1, b2⟩ := back I11
        exact ⟨m', hm', i + 1, some v, _, I11.unpinned, b1, b2, w10⟩
  exact codeAny_compStart_list loop (T.self _ 0 _ _ _ st4 loop)
theorem pe_comp (hc : X.calm = true) (ok : CompOk X scope x fv fs) (hi : PI X (.Name x px) iter wi) (hts : ∀ C s0 H0 fp, PTs (compX X (x :: fv) scope C s0 H0 fp) ifs tc) (he : ∀ C s0 H0 fp, PE (compX X (x :: fv) scope C s0 H0 fp) elt te)
    (hs : ∀ x, foldedSetIterable iter X.env x = pure x := by intro _; rfl) : PE X (.ListComp elt [⟨.Name x px, iter, ifs, 0⟩] scope pos) (tComp wi tc te fs) := by
  intro pins s σ H Q I h
  rw [eval_ListComp]
  refine wpAny_comprehension_free (use := none) rfl hs (closureFor_closL (ok.cells I)) ok.kind ok.names (thn (hi pins s σ H _ I h) fun xv s1 h1 => thn h1 fun itv s2 h2 => ?_)
  obtain ⟨it, fp, tn, J, H2, rfl, I2, T, st2, f2, rd⟩ := h2
  exact comp_run hc ok hts he I2 T st2 f2 rd fun D C s' H' I' fC ⟨m, hm⟩ q => ⟨m, hm, fun h' hs' => ⟨.ref D, H', I'.off fC hs', rfl, q⟩⟩
theorem ps_setComp {i : Nat} {y : Str} {py spos : Pos} (hc : X.calm = true) (ok : CompOk X scope x fv fs) (hN : X.N.Nodup) (hiy : X.N[i]? = some y) (hy : Loc X.env.scope y) (hi : PI X (.Name x px) iter wi) (hts : ∀ C s0 H0 fp, PTs (compX X (x :: fv) scope C s0 H0 fp) ifs tc)
    (he : ∀ C s0 H0 fp, PE (compX X (x :: fv) scope C s0 H0 fp) elt te) (hsw : swapsWith (.ListComp elt [⟨.Name x px, iter, ifs, 0⟩] scope pos) (some (.Name y py)) spos.line X.env = pure true := by rfl)
    (hfn : X.fn y = true ∨ X.env.scope.names.lookup y = some .local := by first | exact .inl rfl | exact .inr rfl | assumption)
    (hs : ∀ x, foldedSetIterable iter X.env x = pure x := by intro _; rfl) : PS X (.Assign [.Name y py] (.ListComp elt [⟨.Name x px, iter, ifs, 0⟩] scope pos) spos) (fun D σ H => tComp wi tc te fs σ H fun v H' => D.nx (σ.set i (some v)) H') := by
  intro pins s σ H D I h
  rw [exec_Assign_Name_used _ _ _ _ hsw]
  refine wpAny_bind (wpAny_standAt (wpAny_bind ?_))
  show wpAny _ X.A (comprehension (.ListComp elt [⟨.Name x px, iter, ifs, 0⟩] scope pos) scope X.env _ (newList []) false (eval iter X.env) (some (assign (.Name y py) X.env)) >>= fun _ => pure ()) _ _ s
  refine wpAny_bind (thn (wpAny_comprehension_free (use := some (assign (.Name y py) X.env)) (Q := fun _ s' => SP X pins D .next s') rfl hs (closureFor_closL (ok.cells I)) ok.kind ok.names
    (thn (hi pins s σ H _ I h) fun xv s1 h1 => thn h1 fun itv s2 h2 => ?_)) fun _ s' hq => wpAny_pure (wpAny_pure hq))
  obtain ⟨it, fp, tn, J, H2, rfl, I2, T, st2, f2, rd⟩ := h2
  refine comp_run (Q := fun v H' => D.nx (σ.set i (some v)) H') hc ok hts he I2 T st2 f2 rd fun D' C s' H' I' fC ⟨m, hm⟩ q => ?_
  show wpAny _ X.A (assign (.Name y py) X.env (.ref D')) _ _ s'
  refine wpAny_assign_Name (store_ok2 I' hN hiy hy (v := .ref D') rfl (fun s'' I'' ⟨a, hsa, ha⟩ => ?_) hfn)
  have hCa : C ≠ a := by
    rcases ha with z | z
    · rw [z]; exact fC.2.1
    · exact fun e => fC.2.2.2.2.1 y a z e.symm
  exact ⟨m, hm.sameBut hsa hCa, fun h' hs' => ⟨_, H', I''.off fC hs', q⟩⟩
end

theorem comp_pure {J : It} {tc : TT} {te : TE} {fs : List Nat} {σ : St} {H : Hp} {Q : VK} {n : Nat} (item g : Nat → V) (p : Nat → Bool) (hn : n ≤ sizeLine)
    (hgo : ∀ i D ys, i < n → H D = none → J.go i (upd H D (.lst ys)))
    (hy : ∀ i D ys v H', i < n → H D = none → J.yld i (upd H D (.lst ys)) v H' → v = item i ∧ H' = upd H D (.lst ys))
    (hst : ∀ D ys, H D = none → J.stop n (upd H D (.lst ys)))
    (hc : ∀ i D ys (R : Bool → Hp → Prop), i < n → H D = none → R (p i) (upd H D (.lst ys)) → tc (some (item i) :: pickS σ fs) (upd H D (.lst ys)) R)
    (he : ∀ i D ys (R : VK), i < n → H D = none → p i = true → R (g i) (upd H D (.lst ys)) → te (some (item i) :: pickS σ fs) (upd H D (.lst ys)) R)
    (hQ : ∀ D, H D = none → Q (.ref D) (upd H D (.lst (((List.range n).filter p).map g)))) :
    CompRd J tc te fs σ H Q := by
  intro D hD
  refine ⟨fun i m H2 => m = n - i ∧ i ≤ n ∧ H2 = upd H D (.lst (((List.range i).filter p).map g)), ⟨n, by simp⟩, ?_⟩
  rintro i m H2 ⟨rfl, hi, rfl⟩
  by_cases hlt : i < n
  · refine .inr ⟨hgo i D _ hlt hD, fun v H3 yl => ?_⟩
    obtain ⟨rfl, rfl⟩ := hy i D _ v H3 hlt hD yl
    refine hc i D _ _ hlt hD ?_
    have er : ∀ b, p i = b → ((List.range (i + 1)).filter p).map g = ((List.range i).filter p).map g ++ (if b = true then [g i] else []) := fun b hb => by
      rw [List.range_succ, List.filter_append, List.map_append]
      cases b with
      | true => simp [hb]
      | false => simp [hb]
    cases hb : p i with
    | false =>
      show ∃ m', m' < n - i ∧ _
      refine ⟨n - (i + 1), by omega, rfl, hlt, ?_⟩
      rw [er false hb]
      simp
    | true =>
      show te _ _ _
      refine he i D _ _ hlt hD hb ⟨_, upd_same, ?_, n - (i + 1), by omega, rfl, hlt, ?_⟩
      · rw [List.length_map]
        have := List.length_filter_le p (List.range i)
        rw [List.length_range] at this
        omega
      · rw [upd_upd, er true hb]
        simp
  · have e : i = n := by omega
    subst e
    exact .inl ⟨hst D _ hD, hQ D hD⟩
end L2

namespace L2
open PySem PySem.Spec PyProof.Rows
theorem Same.put {H H' : Hp} {D : Addr} {o : HO} (s : Same H H') (h : H D = none) : Same H (upd H' D o) := fun b u e => by
  rw [upd_ne (ne_of_none e h)]
  exact s b u e
theorem Same.new {H : Hp} {D : Addr} {o : HO} (h : H D = none) : Same H (upd H D o) := (Same.refl H).put h
theorem comp_rel {J : It} {te : TE} {fs : List Nat} {σ : St} {H : Hp} {Q : VK} {n : Nat} (item : Nat → V) (Ok : Nat → V → Prop) (hn : n ≤ sizeLine)
    (hgo : ∀ i H2, i < n → Same H H2 → J.go i H2)
    (hy : ∀ i H2 v H', i < n → Same H H2 → J.yld i H2 v H' → v = item i ∧ H' = H2)
    (hst : ∀ H2, Same H H2 → J.stop n H2)
    (he : ∀ i H2 (R : VK), i < n → Same H H2 → (∀ y H3, Same H2 H3 → Ok i y → R y H3) → te (some (item i) :: pickS σ fs) H2 R)
    (hQ : ∀ D H2 ys, H D = none → Same H H2 → H2 D = some (.lst ys) → ys.length = n → (∀ (i : Nat) y, ys[i]? = some y → Ok i y) → Q (.ref D) H2) :
    CompRd J tYes te fs σ H Q := by
  intro D hD
  refine ⟨fun i m H2 => m = n - i ∧ i ≤ n ∧ Same H H2 ∧ ∃ ys, H2 D = some (.lst ys) ∧ ys.length = i ∧ ∀ (j : Nat) y, ys[j]? = some y → Ok j y, ⟨n, by simp, Nat.zero_le _, Same.new hD, [], upd_same, rfl, fun j y z => by simp at z⟩, ?_⟩
  rintro i m H2 ⟨rfl, hi, s2, ys, d2, ly, oy⟩
  by_cases hlt : i < n
  · refine .inr ⟨hgo i H2 hlt s2, fun v H3 yl => ?_⟩
    obtain ⟨rfl, rfl⟩ := hy i H2 v H3 hlt s2 yl
    show te _ _ _
    refine he i _ _ hlt s2 fun y H5 s5 ok5 => ⟨ys, s5 _ _ d2, by omega, n - (i + 1), by omega, rfl, hlt, (s2.trans s5).put hD, ys ++ [y], upd_same, by simp [ly], fun j z hz => ?_⟩
    by_cases hj : j < ys.length
    · rw [List.getElem?_append_left hj] at hz
      exact oy j z hz
    · rw [List.getElem?_append_right (by omega)] at hz
      have e : j - ys.length = 0 := by
        cases q : j - ys.length with
        | zero => rfl
        | succ q' => rw [q] at hz; simp at hz
      rw [e] at hz
      have : y = z := by simpa using hz
      subst this
      have : j = i := by omega
      subst this
      exact ok5
  · have e : i = n := by omega
    subst e
    exact .inl ⟨hst H2 s2, hQ D H2 ys hD s2 d2 ly oy⟩
end L2

set_option Elab.async false
set_option linter.all false
set_option maxRecDepth 100000
set_option maxHeartbeats 4000000
namespace L2
open PySem PySem.Spec PyProof.Rows
open Builtin Builtin.Str
theorem clip_nn (n m : Nat) : max 0 (min (m : Int) (n : Int)) = ((min m n : Nat) : Int) := by
  rw [Int.max_eq_right (Int.le_min.mpr ⟨Int.natCast_nonneg _, Int.natCast_nonneg _⟩)]
  by_cases h : m ≤ n
  · rw [Nat.min_eq_left h, Int.min_eq_left (Int.ofNat_le.mpr h)]
  · rw [Nat.min_eq_right (Nat.le_of_not_le h), Int.min_eq_right (Int.ofNat_le.mpr (Nat.le_of_not_le h))]
theorem clip_neg (n : Nat) {i : Int} (h : i < 0) : max 0 (min (i + (n : Int)) (n : Int)) = (((i + (n : Int)).toNat : Nat) : Int) := by
  rw [Int.min_eq_left (by omega), Int.toNat_eq_max, Int.max_comm]
theorem strIx_eq (l u : Option Int) (n : Nat) : strSliceIndices l u 1 n = (List.range (HT.sIx n n u - HT.sIx n 0 l)).map (HT.sIx n 0 l + ·) := by
  have clip : ∀ (v : Option Int) (d : Nat), (match v with | none => (d : Int) | some i => max 0 (min (if i < 0 then i + (n : Int) else i) (n : Int))) = ((HT.sIx n d v : Nat) : Int) := by
    intro v d
    cases v with
    | none => rfl
    | some i =>
      show max 0 (min (if i < 0 then i + (n : Int) else i) (n : Int)) = (((if i < 0 then (i + (n : Int)).toNat else min i.toNat n) : Nat) : Int)
      by_cases h : i < 0
      · simp only [if_pos h]; exact clip_neg n h
      · simp only [if_neg h]
        obtain ⟨m, rfl⟩ := Int.eq_ofNat_of_zero_le (Int.not_lt.mp h)
        exact clip_nn n m
  have hl := clip l 0
  have hu := clip u n
  unfold strSliceIndices sliceRange
  simp only [show (1 : Int) > 0 by decide, if_true, Int.one_mul, Int.ediv_one]
  have e0 : ((0 : Nat) : Int) = 0 := rfl
  rw [e0] at hl
  have gen : ∀ (A B : Int) (a b : Nat), A = (a : Int) → B = (b : Int) → List.map (fun k : Nat => (A + (k : Int)).toNat) (List.range (if A < B then B - A + 1 - 1 else 0).toNat) = List.map (fun x => a + x) (List.range (b - a)) := by
    intro A B a b hA hB
    subst hA hB
    have ec : (if (a : Int) < (b : Int) then (b : Int) - (a : Int) + 1 - 1 else 0).toNat = b - a := by
      split <;> omega
    rw [ec]
    refine List.map_congr_left fun k _ => ?_
    omega
  exact gen _ _ _ _ hl hu
def cutN (xs : List Nat) (l u : Option Int) : List Nat := (xs.drop (HT.sIx xs.length 0 l)).take (HT.sIx xs.length xs.length u - HT.sIx xs.length 0 l)
theorem pick_range {α : Type} (xs : List α) (a k : Nat) (h : a + k ≤ xs.length) : ((List.range k).map (a + ·)).filterMap (xs[·]?) = (xs.drop a).take k := by
  rw [List.filterMap_map]
  induction k with
  | zero => simp
  | succ k ih =>
    rw [List.range_succ, List.filterMap_append, ih (by omega)]
    have hk : a + k < xs.length := by omega
    have e : (xs.drop a)[k]? = some (xs[a + k]) := by
      rw [List.getElem?_drop]
      exact List.getElem?_eq_getElem hk
    rw [List.take_add_one, e]
    simp [hk]
theorem slice_signs (x : Str) (l u : Option Int) : (Txt.slice x l u).cps.toList = cutN x.cps.toList l u := by
  have hlen : x.cps.toList.length = x.length := by rw [Array.length_toList]; rfl
  have hb : HT.sIx x.length x.length u ≤ x.length := by
    cases u with
    | none => exact Nat.le_refl _
    | some v =>
      show (if v < 0 then (v + (x.length : Int)).toNat else min v.toNat x.length) ≤ x.length
      split <;> omega
  unfold Txt.slice cutN
  rw [hlen, strIx_eq]
  generalize ha : HT.sIx x.length 0 l = a
  generalize hbb : HT.sIx x.length x.length u = b at hb
  by_cases hab : a ≤ b
  · split
    · rename_i h
      simp at h
      have : b - a = x.length := h
      have a0 : a = 0 := by omega
      have b0 : b = x.length := by omega
      subst a0
      rw [b0, ← hlen, List.drop_zero, Nat.sub_zero, List.take_length]
    · show (List.filterMap (fun i => x.cps[i]?) _).toArray.toList = _
      rw [List.toList_toArray]
      have e : (fun i : Nat => x.cps[i]?) = fun i : Nat => x.cps.toList[i]? := by
        funext i
        exact (Array.getElem?_toList).symm
      rw [e]
      exact pick_range _ a (b - a) (by omega)
  · have z : b - a = 0 := by omega
    rw [z]
    simp only [List.range_zero, List.map_nil, List.take_zero]
    split
    · rename_i h
      simp at h
      have : x.cps.toList = [] := List.eq_nil_of_length_eq_zero (by rw [hlen]; exact h.symm)
      exact this
    · rfl
end L2

namespace L2
open PySem PySem.Spec PyProof.Rows
section
variable {X : Cx}
inductive rSlSI (x : V) (lo : Option Int) (hi : Option Int) (H : Hp) (Q : VK) : Prop
  | mk (z : _) (x0 : x = .str z) (x1 : z.length ≤ sizeLine) (x2 : Q (.str (Txt.slice z lo hi)) H) : rSlSI  x lo hi H Q
def rSlS : V → Option Int → Option Int → Hp → VK → Prop := fun x lo hi H Q => rSlSI  x lo hi H Q
theorem sl_str : SlR X rSlS := by
  intro pins s σ H x v vl vu lo hi sl Q I rx hs pl pu h
  obtain ⟨z, rfl, hz, q⟩ := h
  obtain ⟨t, rfl⟩ := rx
  refine ⟨"str", _, F.slot_str_getitem.lookup, typeIs_str _ _ _, ?_⟩
  have fin : ∀ t' k, EP X pins σ Q (.str (Txt.slice z lo hi) t') { s with toks := k } := fun t' k => ⟨.str _, H, I.tok k, ⟨t', rfl⟩, q⟩
  cases pl with
  | none =>
    cases pu with
    | none => exact wpAny_getItem_str_slice (l := none) (u := none) (st := none) hs rfl (post_val_or_str ⟨Nat.le_trans (Txt.slice_le z _ _) hz, fin⟩)
    | int j tj => exact wpAny_getItem_str_slice (l := none) (u := some (j, tj)) (st := none) hs rfl (post_val_or_str ⟨Nat.le_trans (Txt.slice_le z _ _) hz, fin⟩)
  | int i ti =>
    cases pu with
    | none => exact wpAny_getItem_str_slice (l := some (i, ti)) (u := none) (st := none) hs rfl (post_val_or_str ⟨Nat.le_trans (Txt.slice_le z _ _) hz, fin⟩)
    | int j tj => exact wpAny_getItem_str_slice (l := some (i, ti)) (u := some (j, tj)) (st := none) hs rfl (post_val_or_str ⟨Nat.le_trans (Txt.slice_le z _ _) hz, fin⟩)
end

section
variable {X : Cx} {tg : Expr}
inductive r_call_allI (K : PySem.W.Frag) (xs : List V) (H : Hp) (Q : VK) : Prop
  | mk (p : Addr) (bs : List Bool) (h0_ : xs = [.ref p]) (h1_ : SqL K H p (bs.map V.bl)) (h2_ : Q (.bl (bs.all id)) H) : r_call_allI K xs H Q
def r_call_all (K : PySem.W.Frag) : List V → Hp → VK → Prop := fun xs H Q => r_call_allI K xs H Q
theorem call_all (hc : X.calm = true) : CallR X (.builtin "all") (r_call_all X.K) := by
  intro pins s σ H xs us Q I r h
  obtain ⟨p, bs, rfl, hp, q⟩ := h
  obtain ⟨u, rfl, ru⟩ := vals1 r
  cases ru
  obtain ⟨its, rv, pl, hz⟩ := I.list hp
  obtain ⟨ob, hob, hob'⟩ := id pl.isList
  have hlt : p < s.heap.objs.size := Heap.lt_size hob
  have hin : X.A.in1.handled = none := I.ok.hd hc
  have hlen : its.toArray.size = bs.length := by rw [List.size_toArray, ← rv.length, List.length_map]
  refine call_all_walk (wpAny_pyIter_list pl.isList ⟨s.heap.objs.size, _, _, _, _, _, fun i => bs.getD i true, rfl, Walks.list hin s.heap.objs.size p (Nat.ne_of_lt hlt) its.toArray, ⟨⟨_, Heap.get?_push_size _ rfl, rfl, rfl⟩, ⟨ob, Heap.get?_push_of_some _ hob, hob'⟩⟩, ?_, fun h' tk kept => ?_⟩)
  · intro i v s' Q' E' hv hq
    have hv : its[i]? = some v := by simpa using hv
    have hi : i < bs.length := by
      have := (List.getElem?_eq_some_iff.mp hv).1
      rw [← rv.length, List.length_map] at this
      exact this
    have e : (bs.map V.bl)[i]? = some (V.bl bs[i]) := by rw [List.getElem?_map, List.getElem?_eq_getElem hi]; rfl
    obtain ⟨u, hu, ru⟩ := rv.get e
    rw [hv] at hu
    cases hu
    cases ru
    have e2 : bs.getD i true = bs[i] := by rw [List.getD_eq_getElem?_getD, List.getElem?_eq_getElem hi]; rfl
    have hq : Q' (bs.getD i true) s' := hq
    rw [e2] at hq
    exact wpAny_truthy_bool hq
  · refine ⟨.bl (bs.all id), H, I.kept (t' := tk) fun b o e => kept b o (fun z => ?_) (Heap.get?_push_of_some _ e), ?_, q⟩
    · have e' : b = s.heap.objs.size := by simpa using z
      exact Nat.ne_of_lt (Heap.lt_size e) e'
    · show Value.bool _ = Value.bool _
      congr 1
      rw [hlen, Bool.eq_iff_iff, List.all_eq_true, List.all_eq_true]
      constructor
      · intro hall b hb
        obtain ⟨i, hi, rfl⟩ := List.mem_iff_getElem.mp hb
        have := hall i (List.mem_range.mpr hi)
        rw [List.getD_eq_getElem?_getD, List.getElem?_eq_getElem hi] at this
        exact this
      · intro hall i hi
        have hi := List.mem_range.mp hi
        rw [List.getD_eq_getElem?_getD, List.getElem?_eq_getElem hi]
        exact hall _ (List.getElem_mem hi)
inductive rJoinI (K : PySem.W.Frag) (x : V) (vs : List V) (H : Hp) (Q : VK) : Prop
  | mk (z : Str) (p : Addr) (ys : List Str) (x0 : x = .str z) (x1 : vs = [.ref p]) (x2 : SqL K H p (ys.map V.str)) (x3 : (ys.map (·.length)).sum + ys.length * z.length ≤ 16777216) (x4 : Q (.str (Txt.join z ys)) H) : rJoinI K x vs H Q
inductive r_op_mul_strI (x : V) (y : V) (H : Hp) (Q : VK) : Prop
  | mk (z : _) (n : _) (h0_ : x = .str z) (h1_ : y = .int n) (h2_ : MulOk z n) (h3_ : Q (.str (Txt.mul z n)) H) : r_op_mul_strI x y H Q
inductive r_op_isBI (x : V) (y : V) (H : Hp) (Q : VK) : Prop
  | mk (a : _) (b : _) (h0_ : x = .bl a) (h1_ : y = .bl b) (h2_ : Q (.bl (a == b)) H) : r_op_isBI x y H Q
inductive r_op_isNotBI (x : V) (y : V) (H : Hp) (Q : VK) : Prop
  | mk (a : _) (b : _) (h0_ : x = .bl a) (h1_ : y = .bl b) (h2_ : Q (.bl (!(a == b))) H) : r_op_isNotBI x y H Q
inductive r_call_isi1I (K : PySem.W.Frag) (xs : List V) (H : Hp) (Q : VK) : Prop
  | mk (x : _) (T : _) (t : _) (b : _) (h0_ : xs = [x, .ty T]) (h1_ : TyOf K H x t) (h2_ : PySem.W.kitOne K t (.type T) = some b) (h3_ : Q (.bl b) H) : r_call_isi1I K xs H Q
inductive rInsertI (x : V) (vs : List V) (H : Hp) (Q : VK) : Prop
  | mk (l : _) (xs : _) (i : _) (y : _) (x0 : x = .ref l) (x1 : vs = [.int ((i : Nat) : Int), y]) (x2 : H l = some (.lst xs)) (x3 : i ≤ xs.length) (x4 : xs.length < sizeLine) (x5 : Q .non (upd H l (.lst (xs.take i ++ y :: xs.drop i)))) : rInsertI  x vs H Q
end
end L2

set_option Elab.async false
set_option linter.all false
set_option maxRecDepth 100000
set_option maxHeartbeats 4000000
namespace L2
open PySem PySem.Spec PyProof.Rows
section
variable {X : Cx}
inductive rCatEI (x : V) (y : V) (H : Hp) (Q : VK) : Prop
  | mk (a : _) (b : _) (xs : _) (ys : _) (x0 : x = .ref a) (x1 : y = .ref b) (x2 : H a = some (.tup xs)) (x3 : H b = some (.tup ys)) (x4 : xs.length + ys.length ≤ sizeLine) (x5 : ∀ p H', Same H H' → H' p = some (.tup (xs ++ ys)) → Q (.ref p) H') : rCatEI  x y H Q
end
end L2
namespace HT
open PySem PyProof.Rows
section
variable {prog : Program} {w : World} {A : Around} {E : Value → Shared → Prop} {s : Shared}
end
end HT
namespace L2
open PySem PySem.Spec PyProof.Rows
section
variable {X : Cx}
inductive rSlEI (x : V) (lo : Option Int) (hi : Option Int) (H : Hp) (Q : VK) : Prop
  | mk (a : _) (xs : _) (x0 : x = .ref a) (x1 : H a = some (.tup xs)) (x2 : ∀ p H', Same H H' → H' p = some (.tup (cutV xs lo hi)) → Q (.ref p) H') : rSlEI  x lo hi H Q
end
end L2

set_option Elab.async false
set_option linter.all false
set_option maxRecDepth 100000
set_option maxHeartbeats 4000000
namespace L2
open PySem PySem.Spec PyProof.Rows
inductive TyN (H : Hp) : V → String → Prop where
  | non : TyN H .non "NoneType"
  | bl (b : Bool) : TyN H (.bl b) "bool"
  | int (i : Int) : TyN H (.int i) "int"
  | str (x : Str) : TyN H (.str x) "str"
  | lst {a : Addr} {xs : List V} (e : Rd H a (.lst xs)) : TyN H (.ref a) "list"
  | tup {a : Addr} {xs : List V} (e : H a = some (.tup xs)) : TyN H (.ref a) "tuple"
  | dK {a : Addr} {kvs : List (Key × V)} (e : Rd H a (.dK kvs)) : TyN H (.ref a) "dict"
theorem Rd.up {H H' : Hp} {a : Addr} {u : HO} (h : Rd H a u) (s : ∀ o, H a = some o → H' a = some o) : Rd H' a u := by
  rcases h with h | ⟨o, h⟩
  · exact .inl (s _ h)
  · exact .inr ⟨o, s _ h⟩
def isiB (T c : String) : Bool := T == c || (T == "bool" && c == "int")
def isiC (c : String) : Bool := ["int", "bool", "str", "list", "tuple", "dict"].contains c
theorem kit_isi {K : PySem.W.Frag} {H : Hp} {v : V} {T c : String} (h : TyN H v T) (hc : isiC c = true) : PySem.W.kitOne K (.type T) (.type c) = some (isiB T c) := by
  have hc : c = "int" ∨ c = "bool" ∨ c = "str" ∨ c = "list" ∨ c = "tuple" ∨ c = "dict" := by
    unfold isiC at hc
    simpa using hc
  cases h <;> rcases hc with rfl | rfl | rfl | rfl | rfl | rfl <;> kernel_rfl
section
variable {X : Cx}
inductive rIsiI (xs : List V) (H : Hp) (Q : VK) : Prop
  | mk (x : _) (c : _) (T : _) (x0 : xs = [x, .ty c]) (x1 : isiC c = true) (x2 : TyN H x T) (x3 : Q (.bl (isiB T c)) H) : rIsiI  xs H Q
def rIsi : List V → Hp → VK → Prop := fun xs H Q => rIsiI  xs H Q
theorem isinst_N {pins : List (Addr × Obj)} {σ : St} {H : Hp} {s : Shared} {A : Around} {E : Value → Shared → Prop} {Q : Value → Shared → Prop} {x : V} {u : Value} {T c : String} {b : Bool} (I : Inv X pins σ H s) (rx : RelV x u) (ty : TyN H x T) (e : PySem.W.kitOne X.K (.type T) (.type c) = some b) (h : ∀ tk, Q (.bool b) { s with toks := tk }) :
    wpAny (model X.prog X.w) A (call (.builtin "isinstance") [u, .type c]) Q E s := by
  cases ty with
  | non => exact isinst_ok I rx .non e h
  | bl y => exact isinst_ok I rx (.bl y) e h
  | int i => exact isinst_ok I rx (.int i) e h
  | str y => exact isinst_ok I rx (.str y) e h
  | tup ea => exact isinst_ok I rx (.tup ea) e h
  | @lst a xs ea =>
    cases (show u = Value.ref a from rx)
    obtain ⟨_, _, n, _, h1⟩ := (show ObjOk X.prog X.w H s.heap a (.lst xs) from ea.ok I.hok)
    exact PySem.W.kia_one PySem.W.kitx_list I.kIn ⟨_, h1, rfl⟩ e (fun z => nomatch z) h
  | @dK a kvs ea =>
    cases (show u = Value.ref a from rx)
    obtain ⟨_, _, vs, _, p⟩ := (show ObjOk X.prog X.w H s.heap a (.dK kvs) from ea.ok I.hok)
    obtain ⟨o, es, ep, h1, h2, _⟩ := p
    exact PySem.W.kia_one PySem.W.kitx_dict I.kIn ⟨o, h1, h2.1⟩ e (fun z => nomatch z) h
theorem call_isiN : CallR X (.builtin "isinstance") rIsi := by
  intro pins s σ H xs us Q I r h
  obtain ⟨x, c, T, rfl, hc, ty, q⟩ := h
  obtain ⟨u, w', rfl, ru, rw'⟩ := vals2 r
  cases rw'
  exact isinst_N I ru ty (kit_isi ty hc) fun tk => ⟨.bl _, H, I.tok tk, rfl, q⟩
end
end L2

set_option Elab.async false
set_option linter.all false
namespace L2
open PySem PySem.Spec PyProof.Rows
end L2

set_option Elab.async false
set_option linter.all false
set_option maxRecDepth 100000
set_option maxHeartbeats 4000000
namespace L2
open PySem PySem.Spec PyProof.Rows
open Builtin Builtin.Str
abbrev sgn (x : Str) : List Nat := x.cps.toList
def LET : List Nat := sgn "abcdefghijklmnopqrstuvwxyz"
def isL (c : Nat) : Bool := decide (c ∈ LET)
theorem sgn_length (x : Str) : (sgn x).length = x.length := by
  show x.cps.toList.length = x.cps.size
  exact Array.length_toList
theorem sgn_append (x y : Str) : sgn (x ++ y) = sgn x ++ sgn y := by
  show (x.cps ++ y.cps).toList = _
  exact Array.toList_append
theorem sgn_slice (x : Str) (l u : Option Int) : sgn (Txt.slice x l u) = cutN (sgn x) l u := slice_signs x l u
def nameS (l : List Nat) : Bool := decide (1 ≤ l.length) && decide (l.length ≤ 8) && l.all isL
def nameB (x : Str) : Bool := nameS (sgn x)
theorem sIx_n (n d k : Nat) : HT.sIx n d (some (k : Int)) = min k n := by
  show (if (k : Int) < 0 then ((k : Int) + (n : Int)).toNat else min (k : Int).toNat n) = min k n
  rw [if_neg (by omega), Int.toNat_natCast]
theorem cut_to (l : List Nat) (k : Nat) : cutN l none (some (k : Int)) = l.take k := by
  unfold cutN
  have e := sIx_n l.length l.length k
  rw [e]
  show (l.drop 0).take (min k l.length - 0) = _
  rw [List.drop_zero, Nat.sub_zero, List.take_eq_take_min]
  simp
theorem cut_from (l : List Nat) (k : Nat) : cutN l (some (k : Int)) none = l.drop k := by
  unfold cutN
  have e := sIx_n l.length 0 k
  rw [e]
  show (l.drop (min k l.length)).take (l.length - min k l.length) = _
  have : (l.drop (min k l.length)).length = l.length - min k l.length := List.length_drop
  rw [← this, List.take_length]
  by_cases h : k ≤ l.length
  · rw [Nat.min_eq_left h]
  · rw [Nat.min_eq_right (by omega), List.drop_eq_nil_of_le (by omega), List.drop_eq_nil_of_le (by omega)]
theorem all_take {l : List Nat} {p : Nat → Bool} (h : l.all p = true) (k : Nat) : (l.take k).all p = true := by
  rw [List.all_eq_true] at h ⊢
  exact fun x hx => h x (List.mem_of_mem_take hx)
theorem all_drop {l : List Nat} {p : Nat → Bool} (h : l.all p = true) (k : Nat) : (l.drop k).all p = true := by
  rw [List.all_eq_true] at h ⊢
  exact fun x hx => h x (List.mem_of_mem_drop hx)
theorem isL_of_mem {c : Nat} (h : c ∈ LET) : isL c = true := decide_eq_true h
theorem nameS_mk {l : List Nat} (h1 : 1 ≤ l.length) (h2 : l.length ≤ 8) (h3 : l.all isL = true) : nameS l = true := by
  unfold nameS
  simp only [Bool.and_eq_true, decide_eq_true_eq]
  exact ⟨⟨h1, h2⟩, h3⟩
end L2

set_option Elab.async false
set_option linter.all false
set_option maxRecDepth 100000
set_option maxHeartbeats 4000000
namespace L2
open PySem PySem.Spec PyProof.Rows
inductive Dc where
  | leaf (v : V)
  | row (a : Addr) (xs : List Dc)
  | tab (a : Addr) (ks : List Str) (xs : List Dc)
namespace Dc
def val : Dc → V
  | leaf v => v
  | row a _ => .ref a
  | tab a _ _ => .ref a
mutual
def addrs : Dc → List Addr
  | leaf _ => []
  | row a xs => a :: addrsL xs
  | tab a _ xs => a :: addrsL xs
def addrsL : List Dc → List Addr
  | [] => []
  | x :: r => addrs x ++ addrsL r
end
mutual
def size : Dc → Nat
  | leaf _ => 1
  | row _ xs => 1 + sizeL xs
  | tab _ _ xs => 1 + sizeL xs
def sizeL : List Dc → Nat
  | [] => 0
  | x :: r => size x + sizeL r
end
def Lf (v : V) : Prop := (∃ i, v = .int i) ∨ ∃ x : Str, v = .str x ∧ x.length ≤ 100
def kvs (ks : List Str) (xs : List Dc) : List (Key × V) := (ks.zip (xs.map val)).map fun p => (Sum.inr p.1, p.2)
mutual
def At (H : Hp) : Dc → Prop
  | leaf v => Lf v
  | row a xs => Rd H a (.lst (xs.map val)) ∧ AtL H xs
  | tab a ks xs => Rd H a (.dK (kvs ks xs)) ∧ ks.length = xs.length ∧ ks.Nodup ∧ AtL H xs
def AtL (H : Hp) : List Dc → Prop
  | [] => True
  | x :: r => At H x ∧ AtL H r
end
mutual
def put (b : Addr) (i : Nat) (k : Str) (p : Dc) : Dc → Dc
  | leaf v => leaf v
  | row a xs => if a = b then row a (xs.take i ++ p :: xs.drop i) else row a (putL b i k p xs)
  | tab a ks xs => if a = b then tab a (ks ++ [k]) (xs ++ [p]) else tab a ks (putL b i k p xs)
def putL (b : Addr) (i : Nat) (k : Str) (p : Dc) : List Dc → List Dc
  | [] => []
  | x :: r => put b i k p x :: putL b i k p r
end
end Dc
end L2

set_option Elab.async false
set_option linter.all false
set_option maxRecDepth 100000
set_option maxHeartbeats 4000000
namespace L2
open PySem PySem.Spec PyProof.Rows
section
variable {X : Cx}
inductive r_op_eqEI (K : PySem.W.Frag) (x : V) (y : V) (H : Hp) (Q : VK) : Prop
  | mk (a : Addr) (b : Addr) (xs : List V) (h0_ : x = .ref a) (h1_ : y = .ref b) (h2_ : SqL K H a xs) (h3_ : SqL K H b []) (h4_ : Q (.bl xs.isEmpty) H) : r_op_eqEI K x y H Q
def r_op_eqE (K : PySem.W.Frag) : V → V → Hp → VK → Prop := fun x y H Q => r_op_eqEI K x y H Q
theorem op_eqE (hu : X.A.units < cLine) : OpR X (compareOp .Eq) (r_op_eqE X.K) := by
  intro pins s σ H x y v u Q I rx ry h
  obtain ⟨a, b, xs, rfl, rfl, ha, hb, q⟩ := h
  cases rx
  cases ry
  obtain ⟨its, r1, p1, _⟩ := I.list ha
  obtain ⟨its2, r2, p2, _⟩ := I.list hb
  cases r2
  have l1 := r1.length
  cases xs with
  | nil =>
    cases r1
    exact SeqAt.eq_listAt (e := fun _ => true) p1.isList p2.isList rfl hu (fun j h1 _ => absurd h1 (by simp)) ⟨.bl true, H, I, rfl, q⟩
  | cons z zs =>
    refine SeqAt.eq_list_lengthsAt p1.isList p2.isList ?_ hu ⟨.bl false, H, I, rfl, q⟩
    rw [List.size_toArray, ← l1]
    simp
inductive r_op_neEI (K : PySem.W.Frag) (x : V) (y : V) (H : Hp) (Q : VK) : Prop
  | mk (a : Addr) (b : Addr) (xs : List V) (h0_ : x = .ref a) (h1_ : y = .ref b) (h2_ : SqL K H a xs) (h3_ : SqL K H b []) (h4_ : Q (.bl (!xs.isEmpty)) H) : r_op_neEI K x y H Q
def r_op_neE (K : PySem.W.Frag) : V → V → Hp → VK → Prop := fun x y H Q => r_op_neEI K x y H Q
theorem op_neE (hu : X.A.units < cLine) : OpR X (compareOp .NotEq) (r_op_neE X.K) := by
  intro pins s σ H x y v u Q I rx ry h
  obtain ⟨a, b, xs, rfl, rfl, ha, hb, q⟩ := h
  cases rx
  cases ry
  obtain ⟨its, r1, p1, _⟩ := I.list ha
  obtain ⟨its2, r2, p2, _⟩ := I.list hb
  cases r2
  have l1 := r1.length
  cases xs with
  | nil =>
    cases r1
    exact SeqAt.RcNeAt.lists (e := fun _ => true) p1.isList p2.isList rfl hu (fun j h1 _ => absurd h1 (by simp)) _ _ _ _ ⟨.bl false, H, I, rfl, q⟩
  | cons z zs =>
    refine SeqAt.RcNeAt.lists_lengths p1.isList p2.isList ?_ hu _ _ _ _ ⟨.bl true, H, I, rfl, q⟩
    rw [List.size_toArray, ← l1]
    simp
def eqTs (xs ys : List V) : Bool := ((List.range (min xs.length ys.length)).all fun j => eqV (xs.getD j .non) (ys.getD j .non)) && xs.length == ys.length
inductive r_op_eqTI (K : PySem.W.Frag) (x : V) (y : V) (H : Hp) (Q : VK) : Prop
  | mk (a : Addr) (b : Addr) (xs : List V) (ys : List V) (h0_ : x = .ref a) (h1_ : y = .ref b) (h2_ : SqT K H a xs) (h3_ : SqT K H b ys) (h4_ : (∀ z ∈ xs, flatV z = true)) (h5_ : (∀ z ∈ ys, flatV z = true)) (h6_ : Q (.bl (eqTs xs ys)) H) : r_op_eqTI K x y H Q
def isiLD (T : String) : Bool := T == "list" || T == "dict"
inductive r_call_isiLDI (xs : List V) (H : Hp) (Q : VK) : Prop
  | mk (x : V) (p : Addr) (T : String) (h0_ : xs = [x, .ref p]) (h1_ : H p = some (.tup [.ty "list", .ty "dict"])) (h2_ : TyN H x T) (h3_ : Q (.bl (isiLD T)) H) : r_call_isiLDI xs H Q
theorem keys_strs {w : World} {P : Program} {vs : List (Key × Value)} {ss : List Str} (hk : vs.map (·.1) = ss.map Sum.inr) {ws : List Value} (hl : ws.length = vs.length)
    (hv : ∀ (j : Nat) (v : Value), ws[j]? = some v → ∃ k x, vs[j]? = some (k, x) ∧ (mixKind P w).is k v = true) : StrsAre ws ss := by
  induction ss generalizing vs ws with
  | nil =>
    have : vs = [] := by cases vs with | nil => rfl | cons a r => simp at hk
    subst this
    have : ws = [] := List.eq_nil_of_length_eq_zero hl
    subst this
    exact .nil
  | cons x r ih =>
    cases vs with
    | nil => simp at hk
    | cons a vs =>
      simp only [List.map_cons, List.cons.injEq] at hk
      cases ws with
      | nil => simp at hl
      | cons u ws =>
        obtain ⟨k, y, e, hi⟩ := hv 0 u rfl
        have e : a = (k, y) := by simpa using e
        subst e
        have hk1 : k = Sum.inr x := hk.1
        subst hk1
        have hi : keyIs (Sum.inr x) u = true := hi
        rcases keyIs_shape hi with ⟨i, t, e1, _⟩ | ⟨z, t, e1, e2⟩
        · cases e1
        · cases e1
          subst e2
          exact .cons _ t (ih hk.2 (by simpa using hl) fun j v hj => hv (j + 1) v (by simpa using hj))
theorem vals_strs {us : List Value} {ys : List Str} (h : StrsAre us ys) : Vals (ys.map V.str) us := by
  induction h with
  | nil => exact .nil
  | cons n t _ ih => exact .cons ⟨t, rfl⟩ ih
inductive r_call_sortedDI (xs : List V) (H : Hp) (Q : VK) : Prop
  | mk (d : Addr) (kv : List (Key × V)) (ss : List Str) (h0_ : xs = [.ref d]) (h1_ : Rd H d (.dK kv)) (h2_ : kv.map (·.1) = ss.map Sum.inr) (h3_ : kv.length < 64) (h4_ : ∀ (p : Addr) (ss' : List Str) (H' : Hp), H p = none → Same H H' → H' p = some (.lst (ss'.map V.str)) → ss'.Perm ss → sortedS ss' = true → Q (.ref p) H') : r_call_sortedDI xs H Q
def r_call_sortedD : List V → Hp → VK → Prop := fun xs H Q => r_call_sortedDI xs H Q
theorem call_sortedD (hc : X.calm = true) : CallR X (.builtin "sorted") r_call_sortedD := by
  intro pins s σ H xs us Q I r h
  obtain ⟨d, kv, ss, rfl, hd, hk, h64, q⟩ := h
  obtain ⟨u, rfl, ru⟩ := vals1 r
  cases ru
  obtain ⟨z, hm, vs, rel, dd⟩ := dk_rd I.hok hd
  have hin : X.A.in1.handled = none := I.ok.hd hc
  have hlv : vs.length = kv.length := rel.length.symm
  have hkv : vs.map (·.1) = ss.map Sum.inr := by rw [← hk]; exact (KV.keys rel).symm
  obtain ⟨ep, hat⟩ := dd.dictAt
  have hz : vs.length ≤ sizeLine := by rw [hlv]; exact z
  refine Calls.call_function_entry kind_sorted plain_sorted entry_sorted (args_sorted1 _) ?_
  unfold Builtin.«sorted»
  refine wpAny_bind (m := checkCount "sorted" 1 1 _) (wpAny_pure (wpAny_bind (PySem.W.kdu_collect (PySem.W.kdl_dict (knd := mixKind X.prog X.w) (kvs := vs) (ep := ep) hm) hin hat hz fun h' tk acc keep items => ?_)))
  have hl : acc.toList.length = vs.length := by rw [Array.length_toList]; exact items.1
  have hS : StrsAre acc.toList ss := keys_strs (P := X.prog) (w := X.w) hkv hl fun j v e => items.2 j v (by rw [← Array.getElem?_toList]; exact e)
  refine wpAny_bind (wpAny_newList ?_ (by rw [hl]; exact hz))
  have hnew : (h'.push { cls := .type "list", data := .seq acc.toList.toArray }).get? h'.objs.size = some (seqObj "list" acc.toList.toArray 0) := Heap.get?_push_size _ rfl
  refine wpAny_bind (wpAny_holding (wpAny_call_entry slot_list_sort ⟨_, hnew, rfl⟩ entry_list_sort (list_sort_treeK strKind_oneLt hnew hS.keysOf (fun v₁ v₂ rest e => keyKind_strs (by rw [← e]; exact hS)) (by rw [hl, hlv]; exact h64) fun st' a1 a2 => ⟨_, rfl, ?_⟩) (args_list_sort _)))
  obtain ⟨ss', b1, b2, b3⟩ := sorted_out_str hS a1 a2
  obtain ⟨ee, he⟩ := sortedHeap_at (out := (arrOf st').map (·.2)) hnew
  refine wpAny_pure ⟨_, rfl, ?_⟩
  have szp : (h'.push { cls := .type "list", data := .seq acc.toList.toArray }).objs.size = h'.objs.size + 1 := size_push' ..
  have I1 := I.kept (t' := tk) keep
  have k2 : ∀ b o, h'.get? b = some o → (sortedHeap (h'.push { cls := .type "list", data := .seq acc.toList.toArray }) h'.objs.size acc.toList ((arrOf st').map (·.2))).get? b = some o := fun b o e => by
    have hb : b < h'.objs.size := Heap.lt_size e
    rw [sortedHeap_old (Nat.ne_of_lt hb) (by rw [szp]; exact Nat.lt_succ_of_lt hb)]
    exact Heap.get?_push_of_some _ e
  have hss : ss'.length ≤ sizeLine := by
    rw [b2.length_eq]
    have := congrArg List.length hk
    rw [List.length_map, List.length_map] at this
    rw [← this]
    exact z
  have new : ObjOk X.prog X.w (upd H h'.objs.size (.lst (ss'.map V.str))) (sortedHeap (h'.push { cls := .type "list", data := .seq acc.toList.toArray }) h'.objs.size acc.toList ((arrOf st').map (·.2))) h'.objs.size (.lst (ss'.map V.str)) :=
    ⟨by rw [List.length_map]; exact hss, ((arrOf st').map (·.2)).toList, ee, vals_strs b1, by rw [Array.toArray_toList]; exact he⟩
  have hf : H h'.objs.size = none := I1.fresh
  exact ⟨.ref h'.objs.size, _, I1.laid (t' := tk) k2 (Nat.le_refl _) new, rfl, q _ ss' _ hf (Same.new hf) upd_same b2 b3⟩
end
end L2

set_option Elab.async false
set_option linter.all false
set_option maxRecDepth 100000
set_option maxHeartbeats 4000000
namespace L2
open PySem PySem.Spec PyProof.Rows
structure Txt (mg : Str → Option Value) : Prop where
  isinstance : mg "isinstance" = none
  int : mg "int" = none
  bool : mg "bool" = none
  str : mg "str" = none
  list : mg "list" = none
  dict : mg "dict" = none
  tuple : mg "tuple" = none
  len : mg "len" = none
  range : mg "range" = none
  max : mg "max" = none
  min : mg "min" = none
  sorted : mg "sorted" = none
  all : mg "all" = none
  any : mg "any" = none
  reversed : mg "reversed" = none
  ValueError : mg "ValueError" = none
  sum : mg "sum" = none
theorem b_isinstance : bootBuiltins "isinstance" = some (.builtin "isinstance") := by decide +kernel
theorem b_int : bootBuiltins "int" = some (.type "int") := by decide +kernel
theorem b_bool : bootBuiltins "bool" = some (.type "bool") := by decide +kernel
theorem b_list : bootBuiltins "list" = some (.type "list") := by decide +kernel
theorem b_dict : bootBuiltins "dict" = some (.type "dict") := by decide +kernel
theorem b_tuple : bootBuiltins "tuple" = some (.type "tuple") := by decide +kernel
theorem b_sorted : bootBuiltins "sorted" = some (.builtin "sorted") := by decide +kernel
theorem b_all : bootBuiltins "all" = some (.builtin "all") := by decide +kernel
theorem b_any : bootBuiltins "any" = some (.builtin "any") := by decide +kernel
theorem iteBF {c : Bool} {A B : Prop} (hc : c = false) (h : B) : if c = true then A else B := by
  rw [hc]
  exact iteF h
theorem iteBT {c : Bool} {A B : Prop} (hc : c = true) (h : A) : if c = true then A else B := by
  rw [hc]
  exact iteT h
theorem pick_mem {α : Type} {xs : List α} {i : Int} (h0 : 0 ≤ i) (h1 : i < (xs.length : Int)) : ∃ v, atI xs i = some v ∧ v ∈ xs := by
  obtain ⟨n, rfl⟩ := Int.eq_ofNat_of_zero_le h0
  have hn : n < xs.length := by omega
  exact ⟨xs[n], atI_nat (List.getElem?_eq_getElem hn), List.getElem_mem hn⟩
inductive DfE (P : Program) (w : World) (K : PySem.W.Frag) (mg : Str → Option Value) (base : Heap) (x : Str) (ps : List Str) (n : Nat) (sp : Sp) : Prop
  | mk (f : Addr) (fd : FuncData) (k : PySem.W.keepIn K (.ref f) = true) (b : Binds K fd ps []) (m : mg x = some (.ref f)) (G : FnOk P w K mg base CX0 n f fd ps sp) : DfE P w K mg base x ps n sp
structure Df (P : Program) (w : World) (K : PySem.W.Frag) (mg : Str → Option Value) (base : Heap) (x : Str) (ps : List Str) (n : Nat) (sp : Sp) : Prop where
  ex : DfE P w K mg base x ps n sp
theorem Df.mk' {P : Program} {w : World} {K : PySem.W.Frag} {mg : Str → Option Value} {base : Heap} {x q : Str} {st : Stmt} {ps : List Str} {n : Nat} {sp : Sp} {f : Addr} {fd : FuncData} (F : Fun K x q st f fd) (b : Binds K fd ps []) (m : mg x = some (.ref f)) (G : FnOk P w K mg base CX0 n f fd ps sp) : Df P w K mg base x ps n sp := ⟨⟨f, fd, F.kp, b, m, G⟩⟩
theorem mod_b (r : Int) {n : Int} (h : 0 < n) : 0 ≤ r % n ∧ r % n < n := ⟨Int.emod_nonneg _ (by omega), Int.emod_lt_of_pos _ h⟩
def Chg (b : Addr) (H H' : Hp) : Prop := ∀ a o, a ≠ b → H a = some o → H' a = some o
end L2

set_option Elab.async false
set_option linter.all false
set_option maxRecDepth 100000
set_option maxHeartbeats 4000000
namespace L2
open PySem PySem.Spec PyProof.Rows
def txtB (x : Str) : Bool := decide (x.length ≤ 12) && (sgn x).all isL
def LeafV (v : V) : Prop := (∃ i : Int, v = .int i ∧ i.natAbs < 2 ^ 400) ∨ ∃ x : Str, v = .str x ∧ txtB x = true
namespace Dc
mutual
def ok : Dc → Prop
  | leaf v => LeafV v
  | row _ xs => okL xs
  | tab _ ks xs => (∀ k ∈ ks, nameB k = true) ∧ okL xs
def okL : List Dc → Prop
  | [] => True
  | x :: r => ok x ∧ okL r
end
mutual
def named (N : List Str) : Dc → Prop
  | leaf _ => True
  | row _ xs => namedL N xs
  | tab _ ks xs => (∀ k ∈ ks, k ∈ N) ∧ namedL N xs
def namedL (N : List Str) : List Dc → Prop
  | [] => True
  | x :: r => named N x ∧ namedL N r
end
def Bare : Dc → Prop
  | leaf v => LeafV v
  | row _ xs => xs = []
  | tab _ ks xs => ks = [] ∧ xs = []
def tyS : Dc → String
  | leaf (.int _) => "int"
  | leaf _ => "str"
  | row _ _ => "list"
  | tab _ _ _ => "dict"
def sub : Dc → List V → Option Dc
  | d, [] => some d
  | row _ xs, .int i :: r => if 0 ≤ i then (xs[i.toNat]?).bind fun x => sub x r else none
  | tab _ ks xs, .str k :: r => ((ks.zip xs).lookup k).bind fun x => sub x r
  | _, _ => none
def StepV (v : V) : Prop := (∃ k : Nat, v = .int (k : Int)) ∨ ∃ x : Str, v = .str x ∧ nameB x = true
end Dc
abbrev abc : Str := "abcdefghijklmnopqrstuvwxyz"
theorem abc_len : abc.length = 26 := by decide +kernel
theorem LET_len : LET.length = 26 := by decide +kernel
theorem at_let (i : Int) (h0 : 0 ≤ i) (h1 : i < 26) : ∃ c, atI (sgn abc) i = some c ∧ isL c = true := by
  obtain ⟨n, rfl⟩ := Int.eq_ofNat_of_zero_le h0
  have hn : n < LET.length := by rw [LET_len]; omega
  exact ⟨LET[n], atI_nat (List.getElem?_eq_getElem hn), isL_of_mem (List.getElem_mem hn)⟩
theorem mod26 (r : Int) : 0 ≤ r % 26 ∧ r % 26 < 26 := ⟨Int.emod_nonneg _ (by decide), Int.emod_lt_of_pos _ (by decide)⟩
inductive spCellI (K : PySem.W.Frag) (vs : List V) (H : Hp) (Q : VK) (u3_ : XK) : Prop
  | mk (a : Addr) (ns : List Int) (k : Nat) (x0 : vs = [.ref a, .int (k : Int)]) (x1 : SqL K H a (ns.map V.int)) (x2 : ∀ r : Int, 0 ≤ r → Q (.int r) H) : spCellI K vs H Q u3_
def spCell (K : PySem.W.Frag) : Sp := fun vs H Q u3_ => spCellI K vs H Q u3_
inductive spMixI (vs : List V) (H : Hp) (Q : VK) (u3_ : XK) : Prop
  | mk (c : Int) (k : Nat) (x0 : vs = [.int c, .int (k : Int)]) (x1 : k ≤ 1000) (x2 : ∀ r : Int, 0 ≤ r → r < 2305843009213693951 → Q (.int r) H) : spMixI  vs H Q u3_
def spMix : Sp := fun vs H Q u3_ => spMixI  vs H Q u3_
def divs : Nat → Int → Int
  | 0, n => n
  | k + 1, n => divs k n / 1000000
def mixN (c : Int) (k : Nat) : Int := (((c + 3) * 1181783497276652981 % 2305843009213693951 + ((k : Int) + 1) * 614889782588491411) % 2305843009213693951) * (((c + 3) * 1181783497276652981 % 2305843009213693951 + ((k : Int) + 1) * 614889782588491411) % 2305843009213693951) % 999999999999999989
def mixF (c : Int) (k : Nat) : Int := if c % 4 = 0 ∧ 4 * 10 ^ 60 ≤ c then divs k (c / 4) % 1000000 else (mixN c k + 1) * (mixN c k / 1000003 + 7) % 2305843009213693951 / 7919
theorem mixF_b (c : Int) (k : Nat) : 0 ≤ mixF c k ∧ mixF c k < 2305843009213693951 := by
  unfold mixF
  split
  · have h1 := Int.emod_nonneg (divs k (c / 4)) (show (1000000 : Int) ≠ 0 by decide)
    have h2 := Int.emod_lt_of_pos (divs k (c / 4)) (show (0 : Int) < 1000000 by decide)
    omega
  · have h1 := Int.emod_nonneg ((mixN c k + 1) * (mixN c k / 1000003 + 7)) (show (2305843009213693951 : Int) ≠ 0 by decide)
    have h2 := Int.emod_lt_of_pos ((mixN c k + 1) * (mixN c k / 1000003 + 7)) (show (0 : Int) < 2305843009213693951 by decide)
    omega
inductive spMixFI (vs : List V) (H : Hp) (Q : VK) (u3_ : XK) : Prop
  | mk (c : Int) (k : Nat) (x0 : vs = [.int c, .int (k : Int)]) (x1 : k ≤ 1000) (x2 : Q (.int (mixF c k)) H) : spMixFI  vs H Q u3_
def spMixF : Sp := fun vs H Q u3_ => spMixFI  vs H Q u3_
theorem spMix_of {vs : List V} {H : Hp} {Q : VK} {E : XK} (h : spMix vs H Q E) : spMixF vs H Q E := by
  obtain ⟨c, k, e, hk, q⟩ := h
  exact ⟨c, k, e, hk, q _ (mixF_b c k).1 (mixF_b c k).2⟩
theorem nodup_by {ys : List Str} (P : Nat → Str → Prop) (h : ∀ (j : Nat) y, ys[j]? = some y → P j y) (inj : ∀ (i j : Nat) y, i < j → j < ys.length → P i y → P j y → False) : ys.Nodup := by
  refine List.pairwise_iff_getElem.mpr fun i j hi hj hij e => ?_
  have h1 := h i _ (List.getElem?_eq_getElem hi)
  have h2 := h j _ (List.getElem?_eq_getElem hj)
  rw [← e] at h2
  exact inj i j _ hij hj h1 h2
inductive spNamesI (vs : List V) (H : Hp) (Q : VK) (u3_ : XK) : Prop
  | mk (c : Int) (d : Int) (x0 : vs = [.int c, .int d]) (x1 : ∀ (p : Addr) (ys : List Str) (H' : Hp), Same H H' → H p = none → H' p = some (.lst (ys.map V.str)) → ys.length = 6 → ys.Nodup → (∀ y ∈ ys, nameB y = true) → Q (.ref p) H') : spNamesI  vs H Q u3_
inductive spLeafI (vs : List V) (H : Hp) (Q : VK) (u3_ : XK) : Prop
  | mk (c : Int) (x0 : vs = [.int c]) (x1 : ∀ v H', LeafV v → Same H H' → Q v H') : spLeafI  vs H Q u3_
inductive spPartI (vs : List V) (H : Hp) (Q : VK) (u3_ : XK) : Prop
  | mk (c : Int) (d : Int) (m : Int) (x0 : vs = [.int c, .int d, .int m]) (x1 : ∀ (p : Dc) (H' : Hp), Same H H' → p.At H' → p.Bare → (∀ a ∈ p.addrs, ∀ o u, H' a ≠ some (.frz o u)) → (∀ a ∈ p.addrs, H a = none) → Q p.val H') : spPartI  vs H Q u3_
def LaidAt (N : List Str) (b : Addr) (y : V) (H H' : Hp) : Prop :=
  (∃ vs i, H b = some (.lst vs) ∧ H' b = some (.lst (vs.take i ++ y :: vs.drop i))) ∨ ∃ kv k, H b = some (.dK kv) ∧ (Sum.inr k : Key) ∉ kv.map (·.1) ∧ (nameB k = true ∧ k ∈ N) ∧ H' b = some (.dK (kv ++ [(Sum.inr k, y)]))
inductive spLaidI (K : PySem.W.Frag) (vs : List V) (H : Hp) (Q : VK) (u3_ : XK) : Prop
  | mk (b : Addr) (n : Addr) (y : V) (ys : List Str) (c : Int) (x0 : vs = [.ref b, y, .ref n, .int c]) (x1 : 0 ≤ c) (x2 : SqL K H n (ys.map V.str)) (x3 : ys.length ≤ 100) (x4 : (∀ y ∈ ys, nameB y = true)) (x5 : ((∃ vs, H b = some (.lst vs) ∧ vs.length ≤ 1000) ∨ ∃ kv, H b = some (.dK kv) ∧ kv.length ≤ 1000)) (x6 : (∀ H', Chg b H H' → LaidAt ys b y H H' → Q (.bl true) H')) (x7 : ∀ H', Same H H' → Q (.bl false) H') : spLaidI K vs H Q u3_
structure Made (H H' : Hp) (d : Dc) : Prop where
  same : Same H H'
  at_ : d.At H'
  ok : d.ok
  nd : d.addrs.Nodup
  own : ∀ a ∈ d.addrs, ∀ o u, H' a ≠ some (.frz o u)
  new : ∀ a ∈ d.addrs, H a = none
inductive spDocI (K : PySem.W.Frag) (vs : List V) (H : Hp) (Q : VK) (u3_ : XK) : Prop
  | mk (a : Addr) (n : Addr) (ns : List Int) (k : Nat) (ys : List Str) (x0 : vs = [.ref a, .int (k : Int), .ref n]) (x1 : SqL K H a (ns.map V.int)) (x2 : ns.length ≤ 63) (x3 : k ≤ 1000) (x4 : H n = some (.lst (ys.map V.str))) (x5 : ys.length ≤ 100) (x6 : (∀ y ∈ ys, nameB y = true)) (x7 : ∀ (t : Addr) (d : Dc) (H' : Hp), Made H H' d → H' t = some (.tup [d.val, .int (d.size : Int)]) → d.size ≤ 40 → (ys ≠ [] → d.named ys) → Q (.ref t) H') : spDocI K vs H Q u3_
inductive spDoc2I (K : PySem.W.Frag) (vs : List V) (H : Hp) (Q : VK) (u3_ : XK) : Prop
  | mk (a : Addr) (n : Addr) (ns : List Int) (k : Nat) (ys : List Str) (x0 : vs = [.ref a, .int (k : Int), .ref n]) (x1 : SqL K H a (ns.map V.int)) (x2 : ns.length ≤ 63) (x3 : k ≤ 1000) (x4 : H n = some (.lst (ys.map V.str))) (x5 : ys.length ≤ 100) (x6 : (∀ y ∈ ys, nameB y = true)) (x7 : ∀ (t : Addr) (d : Dc) (H' : Hp), Made H H' d → H' t = some (.tup [d.val, .int (d.size : Int)]) → d.size ≤ 24 → (ys ≠ [] → d.named ys) → Q (.ref t) H') : spDoc2I K vs H Q u3_
inductive spLawI (K : PySem.W.Frag) (vs : List V) (H : Hp) (Q : VK) (u3_ : XK) : Prop
  | mk (a : Addr) (ns : List Int) (x0 : vs = [.ref a]) (x1 : SqL K H a (ns.map V.int)) (x2 : ns.length ≤ 63) (x3 : ∀ H', Q (.bl true) H') : spLawI K vs H Q u3_
def spLaw (K : PySem.W.Frag) : Sp := fun vs H Q u3_ => spLawI K vs H Q u3_
end L2

set_option Elab.async false
set_option linter.all false
set_option maxRecDepth 100000
set_option maxHeartbeats 4000000
namespace L2
open PySem PySem.Spec PyProof.Rows
theorem le_line {n : Nat} (h : n ≤ 1000) : n ≤ sizeLine := Nat.le_of_lt (small1000 h)
theorem two_line {x y : V} : [x, y].length ≤ sizeLine := le_line (show 2 ≤ 1000 by decide)
theorem one_line {x : V} : [x].length ≤ sizeLine := le_line (show 1 ≤ 1000 by decide)
theorem cutV_init (us : List V) (lv : V) : cutV (us ++ [lv]) none (some (-1)) = us := by
  have e1 : HT.sIx (us ++ [lv]).length (us ++ [lv]).length (some (-1)) = us.length := by
    simp only [HT.sIx, List.length_append, List.length_singleton]
    rw [if_pos (by decide)]
    omega
  unfold cutV
  rw [e1, HT.sIx_none, List.drop_zero, Nat.sub_zero]
  exact List.take_left
theorem none0 {P : Program} {w : World} {K : PySem.W.Frag} {mg : Str → Option Value} {base : Heap} {f : Addr} {fd : FuncData} {ps : List Str} {sp : Sp} (no : ∀ vs H Q E, ¬ sp vs H Q E) : FnOk P w K mg base CX0 0 f fd ps sp :=
  ⟨fun vs H Q E h => absurd h (no vs H Q E), fun A outer s H args us vs Q E _ _ _ _ h => absurd h (no vs H Q E)⟩
theorem seq_if {t u : TS} {D : Ends} {σ : St} {H : Hp} (R : Hp → Prop) (k : ∀ H', R H' → u D σ H') (h : (∀ H', R H' → u D σ H') → t { D with nx := u D } σ H) : tSeq t u D σ H := h k
structure DocInv (H Hi : Hp) (d : Dc) (L : Addr) (ts : List Addr) : Prop where
  made : Made H Hi d
  nL : H L = none
  eL : Hi L = some (.lst (ts.map V.ref))
  out : L ∉ d.addrs
  hold : ∀ t ∈ ts, ∃ b k, Hi t = some (.tup [.ref b, .int k]) ∧ b ∈ d.addrs
namespace Dc
mutual
def slim : Dc → Prop
  | leaf _ => True
  | row _ xs => slimL xs
  | tab _ _ xs => xs.length < 64 ∧ slimL xs
def slimL : List Dc → Prop
  | [] => True
  | x :: r => slim x ∧ slimL r
end
def szAt (ks : List Str) (xs : List Dc) (k : Str) : Nat := (((ks.zip xs).lookup k).map size).getD 0
end Dc
end L2

set_option Elab.async false
set_option linter.all false
set_option maxRecDepth 100000
set_option maxHeartbeats 4000000
namespace L2
open PySem PySem.Spec PyProof.Rows
section
variable {X : Cx} {pins : List (Addr × Obj)} {σ : St} {H : Hp} {s : Shared} {a : Addr} {kvs : List (Key × V)}
theorem Inv.freeze (I : Inv X pins σ H s) (e : H a = some (.dK kvs)) : ∃ o, s.heap.get? a = some o ∧ Inv X pins σ (upd H a (.frz o (.dK kvs))) s := by
  have ok := (show ObjOk X.prog X.w H s.heap a (.dK kvs) from I.hok a _ e)
  obtain ⟨z, hm, vs, kv, o, es, ep, ho, r⟩ := id ok
  refine ⟨o, ho, ?_⟩
  have hne : ∀ b u, H b = some u → u ≠ .dK kvs → b ≠ a := fun b u q n w => by
    subst w
    rw [e] at q
    exact n (Option.some.inj q).symm
  have un : Un X.fs [] H (upd H a (.frz o (.dK kvs))) s.heap s.heap :=
    ⟨fun b ob q _ _ _ => q, fun b ob q _ _ _ => ⟨ob.slots, q⟩, fun b ob q n _ => by rw [upd_ne (fun w => by subst w; rw [e] at n; cases n)]; exact n, fun b ob q _ => ⟨ob, q⟩,
      fun b xs q => by rw [upd_ne (hne b _ q (by intro z; cases z))]; exact q, fun b ob u q => by rw [upd_ne (hne b _ q (by intro z; cases z))]; exact q, fun b ps q => ⟨#[], by rw [upd_ne (hne b _ q (by intro z; cases z)), q]; simp⟩⟩
  have hok : HOk X.prog X.w (upd H a (.frz o (.dK kvs))) s.heap := I.hok.write (by rw [e]; trivial) (.inl rfl) (fun b u _ q => q) ⟨o, ho⟩ ⟨ho, ok⟩
  exact I.un (h' := s.heap) (t' := s.toks) un hok
theorem Inv.thaw {o : Obj} (I : Inv X pins σ H s) (e : H a = some (.frz o (.dK kvs))) (nf : ∀ o u, X.H₀ a ≠ some (.frz o u)) : Inv X pins σ (upd H a (.dK kvs)) s := by
  have ok := (show ObjOk X.prog X.w H s.heap a (.frz o (.dK kvs)) from I.hok a _ e)
  have hne : ∀ b u, H b = some u → u ≠ .frz o (.dK kvs) → b ≠ a := fun b u q n w => by
    subst w
    rw [e] at q
    exact n (Option.some.inj q).symm
  have hnn : ∀ b, H b = none → b ≠ a := fun b n w => by subst w; rw [e] at n; cases n
  have B := I.base
  refine ⟨I.ok, I.os, I.bare, ⟨B.keep, B.slot, fun b ob q n hx => by rw [upd_ne (hnn b (B.free b ob q n hx))]; exact B.free b ob q n hx, B.there, fun b xs q => by rw [upd_ne (hne b _ (B.tups b xs q) (by intro z; cases z))]; exact B.tups b xs q,
    fun b ob u q => by rw [upd_ne (fun w => nf ob u (by rw [← w]; exact q))]; exact B.frzs b ob u q, fun b ps q => ?_⟩, I.loc, I.cell, by rw [upd_ne (hnn _ I.free)]; exact I.free, fun x c q => by rw [upd_ne (hnn _ (I.freeC x c q))]; exact I.freeC x c q,
    fun p hp => let ⟨p1, p2, p3⟩ := I.pin p hp; ⟨p1, by rw [upd_ne (hnn _ p2)]; exact p2, p3⟩, fun b u q => ?_, I.len⟩
  · obtain ⟨more, e'⟩ := B.tbls b ps q
    exact ⟨more, by rw [upd_ne (hne b _ e' (by intro z; cases z))]; exact e'⟩
  · by_cases hb : b = a
    · subst hb
      rw [upd_same] at q
      cases q
      exact ok.2
    · rw [upd_ne hb] at q
      exact (I.hok b u q).stay (fun c v _ r => r) (fun c r => by rw [upd_ne (hne c _ r (by intro z; cases z))]; exact r) fun c xs r => by rw [upd_ne (hne c _ r (by intro z; cases z))]; exact r
theorem Inv.nf (I : Inv X pins σ H s) (e : H a = some (.dK kvs)) : ∀ o u, X.H₀ a ≠ some (.frz o u) := fun o u q => by
  have := I.base.frzs a o u q
  rw [e] at this
  cases this
end
def Thaw (a : Addr) (o : Obj) (kvs : List (Key × V)) (k : Hp → Prop) : Hp → Prop := fun H => H a = some (.frz o (.dK kvs)) ∧ k (upd H a (.dK kvs))
inductive tFrzEI (t : TE) (σ : St) (H : Hp) (Q : VK) : Prop
  | mk (a : _) (kvs : _) (x0 : H a = some (.dK kvs)) (x1 : ∀ o, t σ (upd H a (.frz o (.dK kvs))) fun v => Thaw a o kvs (Q v)) : tFrzEI t σ H Q
def tFrzE (t : TE) : TE := fun σ H Q => tFrzEI t σ H Q
inductive tFrzSI (t : TS) (D : Ends) (σ : St) (H : Hp) : Prop
  | mk (a : _) (kvs : _) (x0 : H a = some (.dK kvs)) (x1 : ∀ o, t ⟨fun σ => Thaw a o kvs (D.nx σ), fun v => Thaw a o kvs (D.rt v), fun σ => Thaw a o kvs (D.bk σ), fun σ => Thaw a o kvs (D.ct σ)⟩ σ (upd H a (.frz o (.dK kvs)))) : tFrzSI t D σ H
def tFrzS (t : TS) : TS := fun D σ H => tFrzSI t D σ H
section
variable {X : Cx}
theorem pe_frz {e : Expr} {t : TE} (h : PE X e t) : PE X e (tFrzE t) := by
  rintro pins s σ H Q I ⟨a, kvs, ea, hq⟩
  obtain ⟨o, ho, I'⟩ := I.freeze ea
  exact thn (h pins s σ _ _ I' (hq o)) fun u s1 ⟨v, H1, I1, r1, e1, q1⟩ => ⟨v, _, I1.thaw e1 (I.nf ea), r1, q1⟩
theorem ps_frz {st : Stmt} {t : TS} (h : PS X st t) : PS X st (tFrzS t) := by
  rintro pins s σ H D I ⟨a, kvs, ea, hq⟩
  obtain ⟨o, ho, I'⟩ := I.freeze ea
  refine thn (h pins s σ _ _ I' (hq o)) fun f s1 h1 => ?_
  cases f with
  | next => obtain ⟨σ1, H1, I1, e1, q1⟩ := h1; exact ⟨σ1, _, I1.thaw e1 (I.nf ea), q1⟩
  | brk => obtain ⟨σ1, H1, I1, e1, q1⟩ := h1; exact ⟨σ1, _, I1.thaw e1 (I.nf ea), q1⟩
  | cont => obtain ⟨σ1, H1, I1, e1, q1⟩ := h1; exact ⟨σ1, _, I1.thaw e1 (I.nf ea), q1⟩
  | ret u => obtain ⟨v, σ1, H1, I1, r1, e1, q1⟩ := h1; exact ⟨v, σ1, _, I1.thaw e1 (I.nf ea), r1, q1⟩
theorem pe_alt {e : Expr} {t u : TE} (h : PE X e t) (h' : PE X e u) : PE X e (fun σ H Q => t σ H Q ∨ u σ H Q) := by
  rintro pins s σ H Q I (q | q)
  · exact h pins s σ H Q I q
  · exact h' pins s σ H Q I q
theorem ps_alt {e : Stmt} {t u : TS} (h : PS X e t) (h' : PS X e u) : PS X e (fun D σ H => t D σ H ∨ u D σ H) := by
  rintro pins s σ H D I (q | q)
  · exact h pins s σ H D I q
  · exact h' pins s σ H D I q
end
def Itd (a : Addr) (o : Obj) (kvs : List (Key × V)) : It :=
  ⟨fun i H => H a = some (.frz o (.dK kvs)) ∧ i < kvs.length, fun i H x H' => H' = H ∧ ∃ k v, kvs[i]? = some (k, v) ∧ x = kV k, fun i H => H a = some (.frz o (.dK kvs)) ∧ i = kvs.length⟩
def iDict (tl : TE) : TI := fun σ H R => tl σ H fun x H1 => ∃ a o kvs, x = .ref a ∧ H1 a = some (.frz o (.dK kvs)) ∧ R (Itd a o kvs) H1
theorem rel_key {P : Program} {w : World} {k : Key} {u : Value} (h : (mixKind P w).is k u = true) : RelV (kV k) u := by
  rcases keyIs_shape (k := k) (v := u) h with ⟨i, t, rfl, rfl⟩ | ⟨x, t, rfl, rfl⟩
  · exact ⟨t, rfl⟩
  · exact ⟨t, rfl⟩
theorem turn_dict {P : Program} {w : World} {K : PySem.W.Frag} {tg : Expr} {a it : Addr} {o : Obj} {kvs : List (Key × V)} {vs : List (Key × Value)} {ep : Nat} (hne : a ≠ it) (rel : KV kvs vs) (hD : ∀ h : Heap, h.get? a = some o → h.DictAt (mixKind P w) a vs ep) :
    Turn P w K tg (Itd a o kvs) [it] it (fun i h => h.IsKeyIter it a i vs.length ep) where
  mem := by simp
  obj := fun i h st b hb => by
    have e : b = it := by simpa using hb
    subst e
    obtain ⟨ob, h1, _, h3⟩ := st
    exact ⟨ob, h1, fun v z => by rw [h3] at z; cases z⟩
  keep := fun i h h' st k => st.at fun ob e => k it (by simp) ob e
  item := fun X hp hw _ hc i pins s σ H E I hf st go => by
    subst hp hw
    have f := hf it (by simp)
    obtain ⟨ga, gi⟩ := go
    have hda := hD s.heap (show ObjOk X.prog X.w H s.heap a (.frz o (.dK kvs)) from I.hok a _ ga).1
    refine (Walks.dictKeys (knd := mixKind X.prog X.w) (I.ok.hd hc) it a hne vs ep).item i s _ E (by rw [← rel.length]; exact gi) ⟨st, hda⟩ fun v h' tk hP st' kept => ?_
    obtain ⟨k, x, hkx, hk⟩ := hP
    obtain ⟨ob, h1, h2, h3⟩ := st'.1
    have hkv : ∃ y, kvs[i]? = some (k, y) := by
      have e := congrArg (fun l => l[i]?) (KV.keys rel)
      simp only [List.getElem?_map, hkx, List.getElem?_eq_getElem gi] at e
      have e : kvs[i].1 = k := by simpa using e
      exact ⟨kvs[i].2, by rw [List.getElem?_eq_getElem gi, ← e]⟩
    obtain ⟨y, hy⟩ := hkv
    refine ⟨v, rfl, go_of (o := ob) h1 h2 h3 (by decide) ⟨kV k, H, I.turned (fun b ob' hb e => kept b ob' (by simp [hb]) e) f.1 f.2.1 f.2.2.2.1 f.2.2.2.2.1 f.2.2.2.2.2, rel_key hk, ⟨rfl, k, y, hy, rfl⟩, st'.1, fun b hb => ?_⟩⟩
    have e : b = it := by simpa using hb
    subst e
    exact f.1
  done := fun X hp hw _ hc i pins s σ H E I hf st stop => by
    subst hp hw
    have f := hf it (by simp)
    obtain ⟨ga, gi⟩ := stop
    have gi : i = vs.length := by rw [gi]; exact rel.length
    subst gi
    have hda := hD s.heap (show ObjOk X.prog X.w H s.heap a (.frz o (.dK kvs)) from I.hok a _ ga).1
    refine (Walks.dictKeys (knd := mixKind X.prog X.w) (I.ok.hd hc) it a hne vs ep).done s _ E ⟨st, hda⟩ fun h' tk kept => ?_
    exact ⟨rfl, I.turned (fun b ob hb e => kept b ob (by simp [hb]) e) f.1 f.2.1 f.2.2.2.1 f.2.2.2.2.1 f.2.2.2.2.2⟩
  self := fun A i s Q E st hQ => wpAny_pyIter_keyiter st hQ
section
variable {X : Cx} {tg : Expr}
theorem pi_dict {l : Expr} {tl : TE} (hl : PE X l tl) : PI X tg l (iDict tl) := by
  intro pins s σ H R I h
  refine thn (hl pins s σ H _ I h) fun v s1 zq => zq.elim fun x H1 I1 r1 q1 => ?_
  obtain ⟨a, o, kvs, rfl, ha, q⟩ := q1
  cases r1
  have ok := (show ObjOk X.prog X.w H1 s1.heap a (.frz o (.dK kvs)) from I1.hok a _ ha)
  obtain ⟨ho, z, hm, vs, rel, dd⟩ := ok
  obtain ⟨ep, hat⟩ := dd.dictAt
  obtain ⟨o', es, ho', r'⟩ := id hat
  rw [ho] at ho'
  cases ho'
  have hlt : a < s1.heap.objs.size := Heap.lt_size ho
  refine wpAny_pyIter_dict hm hat ⟨s1.heap.objs.size, [s1.heap.objs.size], _, Itd a o kvs, H1, rfl, I1.kept (t' := s1.toks) fun b ob e => Heap.get?_push_of_some _ e,
    turn_dict (Nat.ne_of_lt hlt) rel (fun h e => ⟨o, es, e, r'⟩), ⟨_, Heap.get?_push_size _ rfl, rfl, rfl⟩, fun b hb => ?_, q⟩
  have e : b = s1.heap.objs.size := by simpa using hb
  subst e
  exact I1.fpOk (Nat.le_refl _) I1.fresh
end
def SameR (H H' : Hp) : Prop := ∀ b u, Rd H b u → Rd H' b u
theorem Same.r {H H' : Hp} (s : Same H H') : SameR H H' := fun b u r => r.up fun o => s b o
theorem SameR.trans {H H1 H2 : Hp} (s : SameR H H1) (t : SameR H1 H2) : SameR H H2 := fun b u r => t b u (s b u r)
theorem SameR.frz {H : Hp} {a : Addr} {o : Obj} {kvs : List (Key × V)} (e : H a = some (.dK kvs)) : SameR H (upd H a (.frz o (.dK kvs))) := fun b u r => by
  by_cases hb : b = a
  · subst hb
    rcases r with r | ⟨o', r⟩
    · rw [e] at r; cases r; exact .inr ⟨o, upd_same⟩
    · rw [e] at r; cases r
  · exact r.up fun o' q => by rw [upd_ne hb]; exact q
end L2

set_option Elab.async false
set_option linter.all false
set_option maxRecDepth 100000
set_option maxHeartbeats 4000000
namespace PySem
open PyProof.Rows PySem.F PySem.Spec
theorem list_keys_none : typeLookup (.type "list") "keys" = pure none := by rw [typeLookup_type, builtinLookup_eq_fast]; kernel_rfl
theorem keys_miss_list {prog : Program} {w : World} {A : Around} {E : Value → Shared → Prop} {s : Shared} {a : Addr} {o : Obj} {xs : Array Value} {k : Nat} {Q : Option Value → Shared → Prop}
    (hx : s.heap.get? a = some o) (hc : o.cls = .type "list") (hdat : o.data = .seq xs k) (hd : o.dict = none) (hA : A.handled = none)
    (h : ∀ h' tk e, Heap.NewExcOf s.heap h' e "AttributeError" → Q none { s with heap := h', toks := tk }) :
    wpAny (model prog w) A (getAttr? (.ref a) "keys") Q E s := by
  obtain ⟨c, dct, dat, sl⟩ := o
  simp only at hc hdat hd
  subst hc hdat hd
  obtain ⟨hp, g, d, tk, os⟩ := s
  have hT : ∀ tk', (⟨hp, g, d, tk', os⟩ : Shared).TypeIs (.ref a) "list" := fun _ => ⟨_, hx, rfl⟩
  have f1 := sub_AttributeError
  have f3 := F.slot_list_getattribute.lookup
  have f4 := F.slot_list_getattribute.bind (.ref a)
  have f5 := am_list_getattr_none
  unfold getAttr? getAttrBy? getAttrBy
  repeat (any_goals (first | assumption | exact hT _ | ((with_reducible show wpAny _ _ (call (Value.builtin "list.__getattribute__") _ _) _ _ _); refine call_meets F.slot_list_getattribute (hT _) am_entry_list_getattribute (F.args_list_getattribute_2 _ _) (meets_getattribute_miss_list a xs k sl "keys" _ list_keys_none (by decide +kernel) (by decide +kernel)) ⟨hx, hA, fun h' tk' e hx' => ?_⟩) | wp_step))
  obtain ⟨t', u', he⟩ := hx'.there
  show wpAny _ _ (getattributeRaised _ _ _ _ _ _ _) _ _ _
  unfold getattributeRaised
  repeat (any_goals (first | assumption | wp_step))
  exact h _ _ _ hx'.of
theorem entry_dict_loop : entryFor table "dict.update.loop" = some Builtin.«dict.update.loop» := entryFor_of_tree (by kernel_rfl)
theorem plain_dict_loop : plainId "dict.update.loop" = true := by decide +kernel
section
variable {prog : Program} {w : World} {K : Type} [DecidableEq K] {knd : KeyKind prog w K} {A : Around} {R : Result → Shared → Prop}
theorem dict_loop {I l d : Addr} {items : Array Value} {more : List (K × Value)} (hh : A.handled = none) (hne : l ≠ I) (hdI : d ≠ I) (hdl : d ≠ l) (hlen : items.size = more.length) (hsz : more.length ≤ 100000) :
    ∀ (k i : Nat) (s : Shared), more.length - i = k → i ≤ more.length → s.heap.IsListIter I l i → s.heap.IsList l items → s.heap.DictOf knd d (merged [] (more.take i)) →
      (∀ (j : Nat) k' v', more[j]? = some (k', v') → ∃ t key, items[j]? = some (.ref t) ∧ t ≠ d ∧ t ≠ I ∧ IsTup s.heap t #[key, v'] ∧ knd.is k' key = true) →
      (∀ h' tk, h'.DictOf knd d (merged [] more) → (∀ b o, b ≠ d → b ≠ I → s.heap.get? b = some o → h'.get? b = some o) → R (.ok (.ret .none)) { s with heap := h', toks := tk }) →
      codeAny (model prog w) A (.builtin "dict.update.loop" ⟨[.ref d, .ref I, rawInt (i : Int), .none], []⟩) R s := by
  have W := Walks.list (prog := prog) (w := w) (A := A.in1) hh I l hne items
  intro k
  induction k with
  | zero =>
    intro i s hk hi hit hl hd hp hR
    have hin : i = more.length := by omega
    subst hin
    refine codeAny_builtin entry_dict_loop ?_
    rw [Around.under_plainId plain_dict_loop _]
    show wpAny _ A.in1 (pyNext (.ref I) >>= _) _ _ s
    refine wpAny_bind (W.done s _ _ (by rw [hlen]; exact ⟨hit, hl⟩) fun h' tk kept => ?_)
    rw [List.take_length] at hd
    obtain ⟨o, es, ep, ho, r⟩ := hd
    show wpAny _ A.in1 (Builtin.Dict.addKeywords d [] >>= _) _ _ _
    exact wpAny_bind (wpAny_pure (wpAny_pure (hR h' tk ⟨o, es, ep, kept _ _ (by simp [hdI]) ho, r⟩ fun b o _ hb e => kept b o (by simp [hb]) e)))
  | succ k ih =>
    intro i s hk hi hit hl hd hp hR
    have hlt : i < more.length := by omega
    obtain ⟨⟨k', v'⟩, hm⟩ : ∃ p, more[i]? = some p := ⟨_, List.getElem?_eq_getElem hlt⟩
    obtain ⟨t, key, ht, td, tI, tup, hkey⟩ := hp i k' v' hm
    refine codeAny_builtin entry_dict_loop ?_
    rw [Around.under_plainId plain_dict_loop _]
    show wpAny _ A.in1 (pyNext (.ref I) >>= _) _ _ s
    refine wpAny_bind (W.item i s _ _ (by rw [hlen]; exact hlt) ⟨hit, hl⟩ fun v h' tk hv st' kept => ?_)
    rw [ht] at hv
    cases hv
    obtain ⟨ot, hot, hct, nt, hdt⟩ := tup
    have hot' : h'.get? t = some ot := kept _ _ (by simp [tI]) hot
    have hT : ({ s with heap := h', toks := tk } : Shared).TypeIs (.ref t) "tuple" := ⟨_, hot', hct⟩
    obtain ⟨ct, dt, dat, slt⟩ := ot
    simp only at hct hdt
    subst hct hdt
    obtain ⟨o, es, ep, ho, r⟩ := id hd
    have hd' : h'.DictOf knd d (merged [] (more.take i)) := ⟨o, es, ep, kept _ _ (by simp [hdI]) ho, r⟩
    have hml : (merged [] (more.take i)).length ≤ sizeLine := by
      have := merged_length_le ([] : List (K × Value)) (more.take i)
      rw [List.length_take, List.length_nil] at this
      have e : sizeLine = 16777216 := sizeLine_eq
      omega
    show wpAny _ A.in1 (holding [Value.ref t] _ >>= _) _ _ _
    refine wpAny_bind (wpAny_holding (wpAny_bind (wpAny_tryCatch ?_)))
    unfold Builtin.Dict.pairItems
    refine wpAny_bind (wpAny_typeOf hT ?_)
    rw [if_pos (by decide)]
    unfold seqItems?
    refine wpAny_bind ?_
    refine wpAny_bind (wpAny_load hot' ?_)
    refine wpAny_pure (wpAny_pure ?_)
    show wpAny _ A.in1 (holding [key, v'] (dictSet d key v')) _ _ _
    refine wpAny_holding ?_
    unfold dictSet
    try with_reducible refine wpAny_holding ?_
    refine wpAny_bind (knd.pyHash hkey ?_)
    refine wpAny_dictSetHashed_pairs (hsz := hml) hkey hd' fun h2 hd2 hs2 => ?_
    have e1 : stored (merged [] (more.take i)) k' v' = merged [] (more.take (i + 1)) := (merged_take_succ [] more i (k', v') hm).symm
    rw [e1] at hd2
    have kp : ∀ b o, b ≠ d → b ≠ I → s.heap.get? b = some o → h2.get? b = some o := fun b o h1 h3 e => by
      rw [hs2.2 b h1]
      exact kept b o (by simp [h3]) e
    have ic : ((i : Int) + 1) = ((i + 1 : Nat) : Int) := by simp
    refine wpAny_pure ⟨plainId_quiet plain_dict_loop _, ?_⟩
    rw [ic]
    refine ih (i + 1) _ (by omega) hlt (st'.1.at fun o e => by rw [hs2.2 I (Ne.symm hdI)]; exact e) (st'.2.at fun o e => by rw [hs2.2 l (Ne.symm hdl)]; exact e) hd2 (fun j k2 v2 hj => ?_) (fun h3 tk3 hd3 kp3 => hR h3 tk3 hd3 fun b o h1 h4 e => kp3 b o h1 h4 (kp b o h1 h4 e))
    obtain ⟨t2, key2, a1, a2, a3, ⟨ot2, b1, b2⟩, a5⟩ := hp j k2 v2 hj
    exact ⟨t2, key2, a1, a2, a3, ⟨ot2, kp _ _ a2 a3 b1, b2⟩, a5⟩
end
end PySem
namespace L2
open PySem PySem.Spec PyProof.Rows
section
variable {X : Cx}
inductive rDictPI (K : PySem.W.Frag) (xs : List V) (H : Hp) (Q : VK) : Prop
  | mk (l : Addr) (ts : List Addr) (kvs : List (Key × V)) (x0 : xs = [.ref l]) (x1 : SqL K H l (ts.map V.ref)) (x2 : ts.length = kvs.length) (x3 : (∀ (j : Nat) k v, kvs[j]? = some (k, v) → ∃ t, ts[j]? = some t ∧ H t = some (.tup [kV k, v]))) (x4 : kvs.length ≤ 1000) (x5 : ∀ p, H p = none → Q (.ref p) (upd H p (.dK (mergeK [] kvs)))) : rDictPI K xs H Q
def rDictP (K : PySem.W.Frag) : List V → Hp → VK → Prop := fun xs H Q => rDictPI K xs H Q
theorem call_dict_pairs (hc : X.calm = true) : CallR X (.type "dict") (rDictP X.K) := by
  intro pins s σ H xs us Q I r h
  obtain ⟨l, ts, kvs, rfl, hl, hlen, hp, hz, q⟩ := h
  obtain ⟨u, rfl, ru⟩ := vals1 r
  cases ru
  obtain ⟨its, rv, pl, _⟩ := I.list hl
  obtain ⟨ol, nl, hol, hcl, hdn, hdl⟩ := id pl
  have hin : X.A.in1.handled = none := I.ok.hd hc
  refine callType_codes (Q₁ := fun obj s₁ => obj = .ref s.heap.objs.size ∧ s₁ = { s with heap := s.heap.push { cls := .type "dict", data := .dict #[] } }) F.kt_called_dict (F.kt_typeCall_dict_1 _) F.entry_dict_init (kt_code_dict_new _ ⟨rfl, rfl⟩) ?_
  rintro obj s₁ ⟨rfl, rfl⟩
  have hnew : (s.heap.push { cls := .type "dict", data := .dict #[] }).DictOf (mixKind X.prog X.w) s.heap.objs.size [] := Heap.DictOf.new s.heap
  refine ⟨hnew.typeIs, F.args_dict_init_2 _ _, ?_⟩
  unfold Builtin.«dict.__init__»
  refine wpAny_bind ?_
  unfold Builtin.Dict.selfAndRest
  refine wpAny_bind (wpAny_notOrdered_dict hnew.typeIs ?_)
  show wpAny _ _ (pure (s.heap.objs.size, [Value.ref l])) _ _ _
  refine wpAny_pure ?_
  show wpAny _ _ (Builtin.Dict.updateFrom "dict.__init__" s.heap.objs.size (.ref l) [] .none) _ _ _
  unfold Builtin.Dict.updateFrom
  have hol' : (s.heap.push { cls := .type "dict", data := .dict #[] }).get? l = some ol := Heap.get?_push_of_some _ hol
  have hTl : ({ s with heap := s.heap.push { cls := .type "dict", data := .dict #[] } } : Shared).TypeIs (.ref l) "list" := ⟨_, hol', hcl⟩
  refine wpAny_bind (wpAny_typeOf hTl ?_)
  rw [if_pos (by decide)]
  refine wpAny_bind (keys_miss_list hol' hcl hdl hdn hin fun h1 tk1 e1 ne1 => ?_)
  rw [if_pos (show (Option.isNone (none : Option Value)) = true from rfl)]
  have kp1 : ∀ b o, (s.heap.push { cls := .type "dict", data := .dict #[] }).get? b = some o → h1.get? b = some o := ne1.keeps
  have kp0 : ∀ b o, s.heap.get? b = some o → h1.get? b = some o := fun b o e => kp1 b o (Heap.get?_push_of_some _ e)
  have hl1 : h1.IsList l its.toArray := ⟨ol, kp1 _ _ hol', hcl, nl, hdl⟩
  refine wpAny_bind (wpAny_rule ?_)
  refine wpAny_bind (wpAny_pyIter_list hl1 ?_)
  refine wpAny_pure ⟨plainId_quiet plain_dict_loop _, ?_⟩
  obtain ⟨od, es, ep, hod, rd⟩ := id hnew
  have hlt : s.heap.objs.size < h1.objs.size := Heap.lt_size (kp1 _ _ hod)
  have hll : l < s.heap.objs.size := Heap.lt_size hol
  have conc : ∀ kvs : List (Key × V), (∀ p ∈ kvs, ∃ (t : Addr), H t = some (.tup [kV p.1, p.2])) → True := fun _ _ => trivial
  have tupAt : ∀ (t : Addr) k v, H t = some (.tup [kV k, v]) → ∃ key v', IsTup s.heap t #[key, v'] ∧ (mixKind X.prog X.w).is k key = true ∧ RelV v v' := fun t k v e => by
    obtain ⟨z, r2, tp, _⟩ := I.tuple (SqT.of e)
    cases r2 with
    | cons ra rr =>
      cases rr with
      | cons rb rr =>
        cases rr
        exact ⟨_, _, tp, kV_is ra, rb⟩
  obtain ⟨more, hmore⟩ : ∃ more : List (Key × Value), KV kvs more ∧ ∀ (j : Nat) k' v', more[j]? = some (k', v') → ∃ t key, ts[j]? = some t ∧ IsTup s.heap t #[key, v'] ∧ (mixKind X.prog X.w).is k' key = true := by
    have gen : ∀ (kvs : List (Key × V)) (ts : List Addr), (∀ (j : Nat) k v, kvs[j]? = some (k, v) → ∃ t, ts[j]? = some t ∧ H t = some (.tup [kV k, v])) →
        ∃ more : List (Key × Value), KV kvs more ∧ ∀ (j : Nat) k' v', more[j]? = some (k', v') → ∃ t key, ts[j]? = some t ∧ IsTup s.heap t #[key, v'] ∧ (mixKind X.prog X.w).is k' key = true := by
      intro kvs
      induction kvs with
      | nil => exact fun ts _ => ⟨[], .nil, fun j k' v' e => by simp at e⟩
      | cons p r ih =>
        intro ts h
        obtain ⟨k, v⟩ := p
        obtain ⟨t, e1, e2⟩ := h 0 k v rfl
        obtain ⟨key, v', a1, a2, a3⟩ := tupAt t k v e2
        obtain ⟨more, b1, b2⟩ := ih ts.tail (fun j k v e => by
          obtain ⟨t, c1, c2⟩ := h (j + 1) k v (by simpa using e)
          exact ⟨t, by rw [List.getElem?_tail]; exact c1, c2⟩)
        refine ⟨(k, v') :: more, .cons ⟨rfl, a3⟩ b1, fun j k' v'' e => ?_⟩
        cases j with
        | zero =>
          have e : (k, v') = (k', v'') := by simpa using e
          cases e
          exact ⟨t, key, e1, a1, a2⟩
        | succ j =>
          obtain ⟨t, key, c1, c2, c3⟩ := b2 j k' v'' (by simpa using e)
          exact ⟨t, key, by rw [List.getElem?_tail] at c1; exact c1, c2, c3⟩
    exact gen kvs ts hp
  obtain ⟨rel, hm⟩ := hmore
  have hitl : its.length = ts.length := by rw [← rv.length, List.length_map]
  have itAt : ∀ (j : Nat) t, ts[j]? = some t → its.toArray[j]? = some (.ref t) := fun j t e => by
    obtain ⟨u, h1, h2⟩ := rv.get (show (ts.map V.ref)[j]? = some (.ref t) by rw [List.getElem?_map, e]; rfl)
    cases h2
    simpa using h1
  show codeAny _ _ (.builtin "dict.update.loop" ⟨[.ref s.heap.objs.size, .ref h1.objs.size, rawInt ((0 : Nat) : Int), .none], []⟩) _ _
  refine dict_loop (knd := mixKind X.prog X.w) (l := l) (items := its.toArray) (more := more) hin (Nat.ne_of_lt (Nat.lt_trans hll hlt)) (Nat.ne_of_lt hlt) (Nat.ne_of_gt hll) (by rw [List.size_toArray, hitl, hlen]; exact rel.length) (by rw [← rel.length]; omega) more.length 0 _ (by simp) (Nat.zero_le _)
    ⟨_, Heap.get?_push_size _ rfl, rfl, rfl⟩ ⟨ol, Heap.get?_push_of_some _ (kp1 _ _ hol'), hcl, nl, hdl⟩ ⟨od, es, ep, Heap.get?_push_of_some _ (kp1 _ _ hod), rd⟩ (fun j k' v' e => ?_) (fun h2 tk2 hd2 kp2 => ⟨rfl, ?_⟩)
  · obtain ⟨t, key, c1, ⟨ot, c2, c2'⟩, c3⟩ := hm j k' v' e
    have : t < s.heap.objs.size := Heap.lt_size c2
    exact ⟨t, key, itAt j t c1, Nat.ne_of_lt this, Nat.ne_of_lt (Nat.lt_trans this hlt), ⟨ot, Heap.get?_push_of_some _ (kp0 _ _ c2), c2'⟩, c3⟩
  · have hz2 : (mergeK [] kvs).length ≤ sizeLine := by
      have := length_mergeK kvs []
      exact le_line (by simp at this; omega)
    refine ⟨.ref s.heap.objs.size, _, I.laid (t' := tk2) (fun b o e => ?_) (Nat.le_refl _) (dk_new hz2 (beq_eq_false_iff_ne.mpr (Ne.symm (Nat.ne_of_lt I.big))) (KV.merge rel .nil) hd2), rfl, q _ I.fresh⟩
    have := Heap.lt_size e
    exact kp2 b o (Nat.ne_of_lt this) (Nat.ne_of_lt (Nat.lt_trans this hlt)) (Heap.get?_push_of_some _ (kp0 _ _ e))
end
end L2

set_option Elab.async false
set_option linter.all false
set_option maxRecDepth 100000
set_option maxHeartbeats 4000000
namespace L2
open PySem PySem.Spec PyProof.Rows
theorem eqV_self {x : V} (h : flatV x = true) : eqV x x = true := by
  cases x <;> simp_all [flatV, eqV]
theorem eqTs_self {xs : List V} (h : ∀ z ∈ xs, flatV z = true) : eqTs xs xs = true := by
  unfold eqTs
  rw [Nat.min_self, Bool.and_eq_true]
  refine ⟨List.all_eq_true.mpr fun j hj => ?_, beq_self_eq_true _⟩
  have hj := List.mem_range.mp hj
  rw [List.getD_eq_getElem?_getD, List.getElem?_eq_getElem hj]
  exact eqV_self (h _ (List.getElem_mem hj))
section
variable {X : Cx}
theorem flat_eqAt {pins : List (Addr × Obj)} {σ : St} {H : Hp} {s : Shared} {A : Around} {xs ys : List V} {its its2 : List Value} (r1 : Vals xs its) (r2 : Vals ys its2) (fx : ∀ z ∈ xs, flatV z = true) (fy : ∀ z ∈ ys, flatV z = true)
    (j : Nat) (h1 : j < its.toArray.size) (h2 : j < its2.toArray.size) : SeqAt.EqAt A s its.toArray[j] its2.toArray[j] (eqV (xs.getD j .non) (ys.getD j .non)) := by
  have e1 : its.toArray.size = xs.length := by rw [List.size_toArray]; exact r1.length.symm
  have e2 : its2.toArray.size = ys.length := by rw [List.size_toArray]; exact r2.length.symm
  have h1' : j < xs.length := by rw [← e1]; exact h1
  have h2' : j < ys.length := by rw [← e2]; exact h2
  obtain ⟨u1, g1, s1⟩ := r1.get (List.getElem?_eq_getElem h1')
  obtain ⟨u2, g2, s2⟩ := r2.get (List.getElem?_eq_getElem h2')
  have w1 : its.toArray[j] = u1 := by
    have := (List.getElem?_eq_some_iff.mp g1).2
    simpa using this
  have w2 : its2.toArray[j] = u2 := by
    have := (List.getElem?_eq_some_iff.mp g2).2
    simpa using this
  rw [w1, w2]
  have d1 : xs.getD j .non = xs[j] := by rw [List.getD_eq_getElem?_getD, List.getElem?_eq_getElem h1']; rfl
  have d2 : ys.getD j .non = ys[j] := by rw [List.getD_eq_getElem?_getD, List.getElem?_eq_getElem h2']; rfl
  rw [d1, d2]
  exact eqAt_V s1 s2 (fx _ (List.getElem_mem h1')) (fy _ (List.getElem_mem h2'))
inductive rEqLI (K : PySem.W.Frag) (neg : Bool) (x : V) (y : V) (H : Hp) (Q : VK) : Prop
  | mk (a : Addr) (b : Addr) (xs : List V) (ys : List V) (x0 : x = .ref a) (x1 : y = .ref b) (x2 : SqL K H a xs) (x3 : SqL K H b ys) (x4 : (∀ z ∈ xs, flatV z = true)) (x5 : (∀ z ∈ ys, flatV z = true)) (x6 : Q (.bl (if neg then !eqTs xs ys else eqTs xs ys)) H) : rEqLI K neg x y H Q
def rEqL (K : PySem.W.Frag) (neg : Bool) : R2 := fun x y H Q => rEqLI K neg x y H Q
theorem op_eqL (hu : X.A.units < cLine) : OpR X (compareOp .Eq) (rEqL X.K false) := by
  intro pins s σ H x y v u Q I rx ry h
  obtain ⟨a, b, xs, ys, rfl, rfl, ha, hb, fx, fy, q⟩ := h
  cases rx
  cases ry
  obtain ⟨its, r1, p1, _⟩ := I.list ha
  obtain ⟨its2, r2, p2, _⟩ := I.list hb
  have e1 : its.toArray.size = xs.length := by rw [List.size_toArray]; exact r1.length.symm
  have e2 : its2.toArray.size = ys.length := by rw [List.size_toArray]; exact r2.length.symm
  by_cases hl : xs.length = ys.length
  · refine SeqAt.eq_listAt (e := fun j => eqV (xs.getD j .non) (ys.getD j .non)) p1.isList p2.isList (by rw [e1, e2, hl]) hu (fun j h1 h2 => flat_eqAt (pins := pins) (σ := σ) (H := H) r1 r2 fx fy j h1 h2) ?_
    refine ⟨.bl (eqTs xs ys), H, I, ?_, q⟩
    show Value.bool _ = Value.bool _
    congr 1
    unfold eqTs
    rw [e1, hl, Nat.min_self, beq_self_eq_true, Bool.and_true]
  · refine SeqAt.eq_list_lengthsAt p1.isList p2.isList (by rw [e1, e2]; simpa using hl) hu ⟨.bl (eqTs xs ys), H, I, ?_, q⟩
    show Value.bool _ = Value.bool _
    congr 1
    unfold eqTs
    rw [beq_eq_false_iff_ne.mpr hl, Bool.and_false]
theorem pe_range {a : Expr} {ta : TA} {p pos : Pos} (hg : Gl X "range") (hm : X.mg "range" = none) (ha : PA X [a] ta) (hs : starEach [a] X.env = [(false, eval a X.env)] := by rfl) :
    PE X (.Call (.Name "range" p) [a] [] pos) (fun σ H Q => ta σ H fun vs H1 => ∃ j : Int, vs = [.int j] ∧ ∀ r, H1 r = none → Q (.ref r) (upd H1 r (.rng 0 j))) := by
  intro pins s σ H Q I h
  refine Call_ (ld_blt I hg hm boot_range (PyProof.Rows.callWith_type1 (thn (ha pos pins s σ H _ I h) fun us s1 zq => zq.elim fun vs H1 I1 r1 q1 => ?_) hs rfl))
  obtain ⟨j, e, q⟩ := q1
  subst e
  cases r1 with
  | cons r rr =>
    cases rr
    obtain ⟨t, rfl⟩ := r
    exact call_range_1 ⟨.ref s1.heap.objs.size, upd H1 s1.heap.objs.size (.rng 0 j), I1.laid (fun b o e => Heap.get?_push_of_some _ e) (Nat.le_refl _) ⟨_, _, _, Heap.get?_push_size _ rfl⟩, rfl, q _ I1.fresh⟩
inductive r_call_list_rngI (xs : List V) (H : Hp) (Q : VK) : Prop
  | mk (r : Addr) (n : Nat) (h0_ : xs = [.ref r]) (h1_ : H r = some (.rng 0 (n : Int))) (h2_ : n ≤ 1000) (h3_ : ∀ l, H l = none → Q (.ref l) (upd H l (.lst ((List.range n).map fun (i : Nat) => V.int (i : Int))))) : r_call_list_rngI xs H Q
def r_call_list_rng : List V → Hp → VK → Prop := fun xs H Q => r_call_list_rngI xs H Q
theorem call_list_rng (hc : X.calm = true) : CallR X (.type "list") r_call_list_rng := by
  intro pins s σ H xs us Q I r h
  obtain ⟨r0, n, rfl, hr, hn, q⟩ := h
  obtain ⟨u, rfl, ru⟩ := vals1 r
  cases ru
  obtain ⟨t, u, v, e⟩ := (show ObjOk X.prog X.w H s.heap r0 (.rng 0 (n : Int)) from I.hok r0 _ hr)
  have hin : X.A.handled = none := I.ok.hd hc
  refine call_list_range (n := n) hin e (small_one (by omega) (by omega) (by omega) (by omega)) (by rw [rangeSize_one]; split <;> omega) (by omega) fun h' tk acc c' kp e' it => ?_
  have hz : ((List.range n).map fun (i : Nat) => V.int (i : Int)).length ≤ sizeLine := by rw [List.length_map, List.length_range]; exact le_line hn
  refine ⟨.ref s.heap.objs.size, _, I.laid (t' := tk) kp (Nat.le_refl _) (show ObjOk X.prog X.w _ h' _ (.lst _) from ⟨hz, acc.toList, c', ?_, by rw [Array.toArray_toList]; exact e'⟩), rfl, q _ I.fresh⟩
  have gen : ∀ (n : Nat) (l : List Value), l.length = n → (∀ (i : Nat) v, l[i]? = some v → ∃ t, v = Value.int (0 + (i : Int) * 1) t) → Vals ((List.range n).map fun (i : Nat) => V.int (i : Int)) l := by
    intro n
    induction n with
    | zero => intro l hl _; rw [List.eq_nil_of_length_eq_zero hl]; exact .nil
    | succ n ih =>
      intro l hl hi
      have hne : l ≠ [] := fun z => by rw [z] at hl; cases hl
      have e1 : l = l.dropLast ++ [l.getLast hne] := (List.dropLast_concat_getLast hne).symm
      rw [List.range_succ, List.map_append, e1]
      refine (ih l.dropLast (by rw [List.length_dropLast, hl]; rfl) fun i v hv => ?_).append (.cons ?_ .nil)
      · refine hi i v ?_
        rw [e1, List.getElem?_append_left ((List.getElem?_eq_some_iff.mp hv).1)]
        exact hv
      · have : l[n]? = some (l.getLast hne) := by
          rw [List.getLast_eq_getElem]
          have : l.length - 1 = n := by omega
          rw [List.getElem?_eq_getElem (by omega)]
          congr 1
          simp [this]
        obtain ⟨t, e⟩ := hi n _ this
        exact ⟨t, by rw [e]; congr 1; omega⟩
  exact gen n acc.toList (by rw [Array.length_toList]; exact it.1) fun i v hv => it.2 i v (by rw [← Array.getElem?_toList]; exact hv)
inductive r_call_dict_copyI (xs : List V) (H : Hp) (Q : VK) : Prop
  | mk (a : _) (kvs : _) (h0_ : xs = [.ref a]) (h1_ : Rd H a (.dK kvs)) (h2_ : ∀ p, H p = none → Q (.ref p) (upd H p (.dK kvs))) : r_call_dict_copyI xs H Q
def r_call_dict_copy : List V → Hp → VK → Prop := fun xs H Q => r_call_dict_copyI xs H Q
theorem call_dict_copy : CallR X (.type "dict") r_call_dict_copy := by
  intro pins s σ H xs us Q I r h
  obtain ⟨a, kvs, rfl, ha, q⟩ := h
  obtain ⟨u, rfl, ru⟩ := vals1 r
  cases ru
  exact d_copyOf I ha fun p s' hp I' => ⟨.ref p, _, I', rfl, q p hp⟩
inductive r_call_lenRI (xs : List V) (H : Hp) (Q : VK) : Prop
  | mk (a : _) (kvs : _) (h0_ : xs = [V.ref a]) (h1_ : Rd H a (.dK kvs)) (h2_ : Q (.int kvs.length) H) : r_call_lenRI xs H Q
def r_call_lenR : List V → Hp → VK → Prop := fun xs H Q => r_call_lenRI xs H Q
theorem call_lenR : CallR X (.builtin "len") r_call_lenR := by
  intro pins s σ H xs us Q I r h
  obtain ⟨a, kvs, rfl, ha, q⟩ := h
  obtain ⟨u, rfl, ru⟩ := vals1 r
  cases ru
  exact d_len I ha fun t s' I' => ⟨.int kvs.length, H, I', ⟨t, rfl⟩, q⟩
end
theorem lt_tri : ∀ a b : List Nat, ltCps a b = false → ltCps b a = false → a = b
  | [], [], _, _ => rfl
  | [], y :: t, h, _ => by simp [ltCps] at h
  | x :: r, [], _, h => by simp [ltCps] at h
  | x :: r, y :: t, h1, h2 => by
    simp only [ltCps, Bool.or_eq_false_iff, decide_eq_false_iff_not, Bool.and_eq_false_iff] at h1 h2
    have e : x = y := by omega
    subst e
    simp at h1 h2
    rw [lt_tri r t h1 h2]
theorem lt_tr : ∀ a b c : List Nat, ltCps a b = true → ltCps b c = true → ltCps a c = true
  | [], [], c, h, _ => by simp [ltCps] at h
  | [], y :: t, [], _, h => by simp [ltCps] at h
  | [], y :: t, z :: u, _, _ => by simp [ltCps]
  | x :: r, [], c, h, _ => by simp [ltCps] at h
  | x :: r, y :: t, [], _, h => by simp [ltCps] at h
  | x :: r, y :: t, z :: u, h1, h2 => by
    simp only [ltCps, Bool.or_eq_true, decide_eq_true_eq, Bool.and_eq_true, beq_iff_eq] at h1 h2 ⊢
    rcases h1 with h1 | ⟨h1, h1'⟩ <;> rcases h2 with h2 | ⟨h2, h2'⟩
    · left; omega
    · left; omega
    · left; omega
    · right; exact ⟨by omega, lt_tr r t u h1' h2'⟩
theorem le_tr (a b c : List Nat) (h1 : ltCps b a = false) (h2 : ltCps c b = false) : ltCps c a = false := by
  cases e : ltCps c a with
  | false => rfl
  | true =>
    cases e2 : ltCps a b with
    | true => rw [lt_tr c a b e e2] at h2; cases h2
    | false => rw [lt_tri a b e2 h1] at e; rw [e] at h2; cases h2
theorem sorted_pw : ∀ (p : Str) (l : List Str), risingS p l = true → (∀ x ∈ l, ltCps x.cps.toList p.cps.toList = false) ∧ l.Pairwise fun a b => ltCps b.cps.toList a.cps.toList = false
  | _, [], _ => ⟨fun x hx => (nomatch hx), .nil⟩
  | p, y :: r, h => by
    simp only [risingS, Bool.and_eq_true, Bool.not_eq_true'] at h
    obtain ⟨h1, h2⟩ := sorted_pw y r h.2
    refine ⟨fun x hx => ?_, .cons h1 h2⟩
    rcases List.mem_cons.mp hx with rfl | hx
    · exact h.1
    · exact le_tr _ _ _ h.1 (h1 x hx)
theorem sortedS_pw {l : List Str} (h : sortedS l = true) : l.Pairwise fun a b => ltCps b.cps.toList a.cps.toList = false := by
  cases l with
  | nil => exact .nil
  | cons x r => obtain ⟨h1, h2⟩ := sorted_pw x r h; exact .cons h1 h2
theorem str_ext {x y : Str} (h : x.cps.toList = y.cps.toList) : x = y := by
  cases x; cases y
  simp only at h
  congr 1
  exact Array.toList_inj.mp h
theorem sorted_one : ∀ {a b : List Str}, (a.Pairwise fun a b => ltCps b.cps.toList a.cps.toList = false) → (b.Pairwise fun a b => ltCps b.cps.toList a.cps.toList = false) → a.Perm b → a = b
  | [], b, _, _, p => (List.nil_perm.mp p).symm
  | x :: r, [], _, _, p => by have := p.length_eq; simp at this
  | x :: r, y :: t, h1, h2, p => by
    obtain ⟨a1, a2⟩ := List.pairwise_cons.mp h1
    obtain ⟨b1, b2⟩ := List.pairwise_cons.mp h2
    have e : x = y := by
      have hx : x ∈ y :: t := p.mem_iff.mp List.mem_cons_self
      have hy : y ∈ x :: r := p.mem_iff.mpr List.mem_cons_self
      rcases List.mem_cons.mp hx with hx | hx
      · exact hx
      · rcases List.mem_cons.mp hy with hy | hy
        · exact hy.symm
        · exact str_ext (lt_tri _ _ (b1 x hx) (a1 y hy))
    subst e
    rw [sorted_one a2 b2 (List.Perm.cons_inv p)]
theorem sortedS_one {a b : List Str} (h1 : sortedS a = true) (h2 : sortedS b = true) (p : a.Perm b) : a = b := sorted_one (sortedS_pw h1) (sortedS_pw h2) p
end L2

set_option Elab.async false
set_option linter.all false
set_option maxRecDepth 100000
set_option maxHeartbeats 4000000
namespace L2
open PySem PySem.Spec PyProof.Rows
namespace Dc
mutual
def deep : Dc → Nat
  | leaf _ => 1
  | row _ xs => 1 + deepL xs
  | tab _ _ xs => 1 + deepL xs
def deepL : List Dc → Nat
  | [] => 0
  | x :: r => max (deep x) (deepL r)
end
mutual
def parts : Dc → List Dc
  | leaf v => [leaf v]
  | row a xs => row a xs :: partsL xs
  | tab a ks xs => tab a ks xs :: partsL xs
def partsL : List Dc → List Dc
  | [] => []
  | x :: r => parts x ++ partsL r
end
structure PartOf (e d : Dc) : Prop where
  at_ : ∀ {H : Hp}, d.At H → e.At H
  ok : d.ok → e.ok
  slim : d.slim → e.slim
  deep : e.deep ≤ d.deep
  size : e.size ≤ d.size
  addrs : ∀ a ∈ e.addrs, a ∈ d.addrs
mutual
def like : Dc → Dc → Prop
  | leaf v, leaf w => v = w
  | row _ xs, row _ ys => likeL xs ys
  | tab _ ks xs, tab _ ls ys => ks = ls ∧ likeL xs ys
  | _, _ => False
def likeL : List Dc → List Dc → Prop
  | [], [] => True
  | x :: r, y :: t => like x y ∧ likeL r t
  | _, _ => False
end
def kids : Dc → List Dc
  | leaf _ => []
  | row _ xs => xs
  | tab _ _ xs => xs
def StepsOf : Dc → List V → Prop
  | leaf _, l => l = []
  | row _ xs, l => l = (List.range xs.length).map fun (i : Nat) => V.int (i : Int)
  | tab _ ks _, l => ∃ ss : List Str, l = ss.map V.str ∧ ss.Perm ks ∧ sortedS ss = true
end Dc
structure Fresh (H H' : Hp) (d : Dc) : Prop where
  same : Same H H'
  at_ : d.At H'
  nd : d.addrs.Nodup
  own : ∀ a ∈ d.addrs, ∀ o u, H' a ≠ some (.frz o u)
  new : ∀ a ∈ d.addrs, H a = none
theorem while_W {c : TT} {tb : TS} {D : Ends} {σ : St} {H : Hp} (W : Nat → St → Hp → Prop) (m0 : Nat) (h0 : W m0 σ H)
    (hs : ∀ m σ H, W m σ H → c σ H fun b H1 => if b = true then tb { D with nx := fun σ' H' => ∃ m', m' < m ∧ W m' σ' H', ct := fun σ' H' => ∃ m', m' < m ∧ W m' σ' H', bk := D.nx } σ H1 else D.nx σ H1)
    (mono : ∀ σ H Q Q', (∀ b H1, Q b H1 → Q' b H1) → c σ H Q → c σ H Q') : tWhile c tb D σ H := by
  refine ⟨W, ⟨m0, h0⟩, fun m σ H p => ?_⟩
  refine mono σ H _ _ (fun b H1 q => ?_) (hs m σ H p)
  cases b with
  | true => exact ⟨_, fun σ' H' z => z, q⟩
  | false => exact q
inductive spCopyI (n : Nat) (vs : List V) (H : Hp) (Q : VK) (u3_ : XK) : Prop
  | mk (d : Dc) (x0 : vs = [d.val]) (x1 : d.At H) (x2 : d.deep ≤ n) (x3 : d.size ≤ 900) (x4 : ∀ (d' : Dc) (H' : Hp), Fresh H H' d' → Dc.like d d' → Q d'.val H') : spCopyI n vs H Q u3_
inductive spAlikeI (n : Nat) (vs : List V) (H : Hp) (Q : VK) (u3_ : XK) : Prop
  | mk (d : Dc) (e : Dc) (x0 : vs = [d.val, e.val]) (x1 : d.At H) (x2 : e.At H) (x3 : Dc.like d e) (x4 : d.slim) (x5 : d.deep ≤ n) (x6 : d.size ≤ 900) (x7 : ∀ H', Same H H' → Q (.bl true) H') : spAlikeI n vs H Q u3_
inductive spPartsI (n : Nat) (vs : List V) (H : Hp) (Q : VK) (u3_ : XK) : Prop
  | mk (d : Dc) (x0 : vs = [d.val]) (x1 : d.At H) (x2 : d.deep ≤ n) (x3 : d.size ≤ 900) (x4 : ∀ (p : Addr) (H' : Hp), Same H H' → H p = none → H' p = some (.lst (d.parts.map Dc.val)) → Q (.ref p) H') : spPartsI n vs H Q u3_
inductive spStepsI (vs : List V) (H : Hp) (Q : VK) (u3_ : XK) : Prop
  | mk (d : Dc) (x0 : vs = [d.val]) (x1 : d.At H) (x2 : d.slim) (x3 : d.size ≤ 900) (x4 : ∀ (p : Addr) (l : List V) (H' : Hp), Same H H' → H p = none → H' p = some (.lst l) → d.StepsOf l → Q (.ref p) H') : spStepsI  vs H Q u3_
inductive spInnerI (vs : List V) (H : Hp) (Q : VK) (u3_ : XK) : Prop
  | mk (d : Dc) (x0 : vs = [d.val]) (x1 : d.At H) (x2 : d.slim) (x3 : d.size ≤ 900) (x4 : ∀ (p : Addr) (es : List Dc) (H' : Hp), Same H H' → H p = none → H' p = some (.lst (es.map Dc.val)) → es.Perm d.kids → Q (.ref p) H') : spInnerI  vs H Q u3_
inductive spSizeOfI (vs : List V) (H : Hp) (Q : VK) (u3_ : XK) : Prop
  | mk (d : Dc) (x0 : vs = [d.val]) (x1 : d.At H) (x2 : d.slim) (x3 : d.size ≤ 900) (x4 : ∀ H', Same H H' → Q (.int (d.size : Int)) H') : spSizeOfI  vs H Q u3_
inductive spIsDocI (vs : List V) (H : Hp) (Q : VK) (u3_ : XK) : Prop
  | mk (d : Dc) (x0 : vs = [d.val]) (x1 : d.At H) (x2 : d.ok) (x3 : d.slim) (x4 : d.size ≤ 900) (x5 : ∀ H', Same H H' → Q (.bl true) H') : spIsDocI  vs H Q u3_
def Dc.kindS : Dc → Str
  | .leaf (.str _) => "text"
  | .leaf _ => "number"
  | .row _ _ => "row"
  | .tab _ _ _ => "table"
inductive spKindI (vs : List V) (H : Hp) (Q : VK) (u3_ : XK) : Prop
  | mk (d : Dc) (x0 : vs = [d.val]) (x1 : d.At H) (x2 : Q (.str d.kindS) H) : spKindI  vs H Q u3_
inductive spPathsI (n : Nat) (vs : List V) (H : Hp) (Q : VK) (u3_ : XK) : Prop
  | mk (d : Dc) (t : Addr) (xs : List V) (x0 : vs = [d.val, .ref t]) (x1 : d.At H) (x2 : d.ok) (x3 : d.slim) (x4 : d.deep ≤ n) (x5 : H t = some (.tup xs)) (x6 : xs.length + d.size ≤ 1000) (x7 : ∀ (p : Addr) (ps : List Addr) (H' : Hp), Same H H' → H p = none → H' p = some (.lst (ps.map V.ref)) → ps.length = d.size → (∀ q ∈ ps, ∃ zs, H' q = some (.tup (xs ++ zs)) ∧ (d.sub zs).isSome = true) → Q (.ref p) H') : spPathsI n vs H Q u3_
end L2

set_option Elab.async false
set_option linter.all false
set_option maxRecDepth 100000
set_option maxHeartbeats 4000000
namespace L2
open PySem PySem.Spec PyProof.Rows
def back (a : Addr) (H H' : Hp) : Hp := fun b => if b = a then H a else H' b
theorem back_ne {a b : Addr} {H H' : Hp} (h : b ≠ a) : back a H H' b = H' b := if_neg h
theorem back_at {a : Addr} {H H' : Hp} : back a H H' a = H a := if_pos rfl
theorem back_upd {a : Addr} {H H' : Hp} {u : HO} (e : H a = some u) : back a H H' = upd H' a u := by
  funext b
  unfold back upd
  split
  · exact e
  · rfl
theorem back_same {a : Addr} {H H' : Hp} (e : H a = H' a) : back a H H' = H' := by
  funext b
  unfold back
  split
  · rename_i h; rw [h, e]
  · rfl
structure Frz (a : Addr) (o : Obj) (kvs : List (Key × V)) (H Hf : Hp) : Prop where
  at_ : Hf a = some (.frz o (.dK kvs))
  rd : SameR H Hf
  ne : ∀ b, b ≠ a → Hf b = H b
  rda : Rd H a (.dK kvs)
theorem Frz.free {a b : Addr} {o : Obj} {kvs : List (Key × V)} {H Hf : Hp} (F : Frz a o kvs H Hf) (h : Hf b = none) : H b = none ∧ b ≠ a := by
  have hb : b ≠ a := fun z => by rw [z, F.at_] at h; cases h
  rw [F.ne b hb] at h
  exact ⟨h, hb⟩
theorem Frz.back {a : Addr} {o : Obj} {kvs : List (Key × V)} {H Hf Hi : Hp} (F : Frz a o kvs H Hf) (s : Same Hf Hi) : Same H (back a H Hi) := fun b u e => by
  by_cases hb : b = a
  · subst hb; rw [back_at]; exact e
  · rw [back_ne hb]
    exact s b u (by rw [F.ne b hb]; exact e)
inductive tWalkEI (t : TE) (σ : St) (H : Hp) (Q : VK) : Prop
  | mk (a : _) (kvs : _) (x0 : Rd H a (.dK kvs)) (x1 : ∀ o Hf, Frz a o kvs H Hf → t σ Hf fun v H' => H' a = some (.frz o (.dK kvs)) ∧ Q v (back a H H')) : tWalkEI t σ H Q
def tWalkE (t : TE) : TE := fun σ H Q => tWalkEI t σ H Q
inductive tWalkSI (t : TS) (D : Ends) (σ : St) (H : Hp) : Prop
  | mk (a : _) (kvs : _) (x0 : Rd H a (.dK kvs)) (x1 : ∀ o Hf, Frz a o kvs H Hf → t ⟨fun σ H' => H' a = some (.frz o (.dK kvs)) ∧ D.nx σ (back a H H'), fun v H' => H' a = some (.frz o (.dK kvs)) ∧ D.rt v (back a H H'), fun σ H' => H' a = some (.frz o (.dK kvs)) ∧ D.bk σ (back a H H'), fun σ H' => H' a = some (.frz o (.dK kvs)) ∧ D.ct σ (back a H H')⟩ σ Hf) : tWalkSI t D σ H
def tWalkS (t : TS) : TS := fun D σ H => tWalkSI t D σ H
theorem Frz.of {a : Addr} {o : Obj} {kvs : List (Key × V)} {H : Hp} (e : H a = some (.dK kvs)) : Frz a o kvs H (upd H a (.frz o (.dK kvs))) := ⟨upd_same, SameR.frz e, fun b hb => upd_ne hb, .inl e⟩
theorem Frz.same {a : Addr} {o : Obj} {kvs : List (Key × V)} {H : Hp} (e : H a = some (.frz o (.dK kvs))) : Frz a o kvs H H := ⟨e, fun _ _ r => r, fun _ _ => rfl, .inr ⟨o, e⟩⟩
section
variable {X : Cx}
theorem pe_walk {e : Expr} {t : TE} (h : PE X e t) : PE X e (tWalkE t) := by
  rintro pins s σ H Q I ⟨a, kvs, r, hq⟩
  rcases r with r | ⟨o, r⟩
  · refine pe_frz h pins s σ H Q I ⟨a, kvs, r, fun o => ?_⟩
    have := hq o _ (Frz.of r)
    have e : (fun v H' => H' a = some (.frz o (.dK kvs)) ∧ Q v (back a H H')) = fun v => Thaw a o kvs (Q v) := by
      funext v H'
      unfold Thaw
      rw [back_upd r]
    rw [e] at this
    exact this
  · refine thn (h pins s σ H _ I (hq o H (Frz.same r))) fun u s1 ⟨v, H1, I1, r1, e1, q1⟩ => ⟨v, H1, I1, r1, ?_⟩
    rw [back_same (r.trans e1.symm)] at q1
    exact q1
theorem ps_walk {st : Stmt} {t : TS} (h : PS X st t) : PS X st (tWalkS t) := by
  rintro pins s σ H D I ⟨a, kvs, r, hq⟩
  rcases r with r | ⟨o, r⟩
  · refine ps_frz h pins s σ H D I ⟨a, kvs, r, fun o => ?_⟩
    have := hq o _ (Frz.of r)
    have e : ∀ k : Hp → Prop, (fun H' => H' a = some (.frz o (.dK kvs)) ∧ k (back a H H')) = Thaw a o kvs k := fun k => by
      funext H'
      unfold Thaw
      rw [back_upd r]
    simp only [← e]
    exact this
  · refine thn (h pins s σ H _ I (hq o H (Frz.same r))) fun f s1 h1 => ?_
    cases f with
    | next => obtain ⟨σ1, H1, I1, e1, q1⟩ := h1; rw [back_same (r.trans e1.symm)] at q1; exact ⟨σ1, _, I1, q1⟩
    | brk => obtain ⟨σ1, H1, I1, e1, q1⟩ := h1; rw [back_same (r.trans e1.symm)] at q1; exact ⟨σ1, _, I1, q1⟩
    | cont => obtain ⟨σ1, H1, I1, e1, q1⟩ := h1; rw [back_same (r.trans e1.symm)] at q1; exact ⟨σ1, _, I1, q1⟩
    | ret u => obtain ⟨v, σ1, H1, I1, r1, e1, q1⟩ := h1; rw [back_same (r.trans e1.symm)] at q1; exact ⟨v, σ1, _, I1, r1, q1⟩
end
theorem comp_by {J : It} {te : TE} {fs : List Nat} {σ : St} {H : Hp} {Q : VK} (n : Nat) (item : Nat → V) (P : Addr → Nat → Hp → Prop) (h0 : ∀ D, H D = none → P D 0 (upd H D (.lst [])))
    (hgo : ∀ D i H2, i < n → P D i H2 → J.go i H2) (hy : ∀ D i H2 v H', i < n → P D i H2 → J.yld i H2 v H' → v = item i ∧ H' = H2) (hst : ∀ D H2, P D n H2 → J.stop n H2)
    (he : ∀ D i H2, H D = none → i < n → P D i H2 → te (some (item i) :: pickS σ fs) H2 fun y H5 => ∃ ys, H5 D = some (.lst ys) ∧ ys.length < sizeLine ∧ P D (i + 1) (upd H5 D (.lst (ys ++ [y]))))
    (hQ : ∀ D H2, H D = none → P D n H2 → Q (.ref D) H2) : CompRd J tYes te fs σ H Q := by
  intro D hD
  refine ⟨fun i m H2 => m = n - i ∧ i ≤ n ∧ P D i H2, ⟨n, rfl, Nat.zero_le _, h0 D hD⟩, ?_⟩
  rintro i m H2 ⟨rfl, hi, p⟩
  by_cases hlt : i < n
  · refine .inr ⟨hgo D i H2 hlt p, fun v H3 y => ?_⟩
    obtain ⟨rfl, rfl⟩ := hy D i H2 v H3 hlt p y
    unfold tYes
    dsimp only
    rw [if_pos rfl]
    have key := he D i H3 hD hlt p
    have e : (fun (y : V) (H5 : Hp) => ∃ ys, H5 D = some (.lst ys) ∧ ys.length < sizeLine ∧ ∃ m', m' < n - i ∧ m' = n - (i + 1) ∧ i + 1 ≤ n ∧ P D (i + 1) (upd H5 D (.lst (ys ++ [y])))) = fun y H5 => ∃ ys, H5 D = some (.lst ys) ∧ ys.length < sizeLine ∧ P D (i + 1) (upd H5 D (.lst (ys ++ [y]))) := by
      funext y H5
      refine propext ⟨fun ⟨ys, a, b, m', _, _, _, c⟩ => ⟨ys, a, b, c⟩, fun ⟨ys, a, b, c⟩ => ⟨ys, a, b, n - (i + 1), by omega, rfl, hlt, c⟩⟩
    rw [← e] at key
    exact key
  · have e : i = n := by omega
    subst e
    exact .inl ⟨hst D H2 p, hQ D H2 hD p⟩
structure FreshL (H H' : Hp) (es : List Dc) : Prop where
  same : Same H H'
  at_ : Dc.AtL H' es
  nd : (Dc.addrsL es).Nodup
  own : ∀ a ∈ Dc.addrsL es, ∀ o u, H' a ≠ some (.frz o u)
  new : ∀ a ∈ Dc.addrsL es, H a = none
theorem mergeK_nodup : ∀ (more kvs : List (Key × V)), ((kvs ++ more).map (·.1)).Nodup → mergeK kvs more = kvs ++ more
  | [], kvs, _ => by simp [mergeK]
  | p :: r, kvs, h => by
    have hk : valV kvs p.1 = none := by
      cases e : valV kvs p.1 with
      | none => rfl
      | some v =>
        have := valV_in e
        rw [List.map_append, List.map_cons] at h
        obtain ⟨_, _, h3⟩ := List.nodup_append.mp h
        exact absurd rfl (h3 p.1 this p.1 List.mem_cons_self)
    show mergeK (putK kvs p.1 p.2) r = _
    rw [putK_new p.2 hk, mergeK_nodup r (kvs ++ [(p.1, p.2)]) (by simpa using h)]
    simp
namespace Dc
end Dc
end L2

set_option Elab.async false
set_option linter.all false
set_option maxRecDepth 100000
set_option maxHeartbeats 4000000
namespace L2
open PySem PySem.Spec PyProof.Rows
def wholeV : V → Bool
  | .int _ => true
  | _ => false
def nameV : V → Bool
  | .str x => nameB x
  | _ => false
def Short (v : V) : Prop := ∀ x, v = .str x → x.length ≤ 1000
inductive spWholeI (vs : List V) (H : Hp) (Q : VK) (u3_ : XK) : Prop
  | mk (v : _) (T : _) (x0 : vs = [v]) (x1 : TyN H v T) (x2 : Q (.bl (wholeV v)) H) : spWholeI  vs H Q u3_
inductive spLettersI (vs : List V) (H : Hp) (Q : VK) (u3_ : XK) : Prop
  | mk (x : Str) (x0 : vs = [.str x]) (x1 : x.length ≤ 1000) (x2 : ∀ H', Same H H' → Q (.bl ((sgn x).all isL)) H') : spLettersI  vs H Q u3_
inductive spNameI (vs : List V) (H : Hp) (Q : VK) (u3_ : XK) : Prop
  | mk (v : _) (T : _) (x0 : vs = [v]) (x1 : TyN H v T) (x2 : Short v) (x3 : ∀ H', Same H H' → Q (.bl (nameV v)) H') : spNameI  vs H Q u3_
inductive spSoundI (vs : List V) (H : Hp) (Q : VK) (u3_ : XK) : Prop
  | mk (d : Dc) (x0 : vs = [d.val]) (x1 : d.At H) (x2 : d.ok) (x3 : d.size ≤ 900) (x4 : ∀ H', Same H H' → Q (.bl true) H') : spSoundI  vs H Q u3_
end L2

set_option Elab.async false
set_option linter.all false
set_option maxRecDepth 100000
set_option maxHeartbeats 4000000
namespace L2
open PySem PySem.Spec PyProof.Rows
def OutC (H Hi : Hp) (c : V) : Dc → Prop
  | .leaf v => c = v ∧ Dc.Lf v
  | .row _ xs => ∃ a, c = .ref a ∧ Hi a = some (.lst (xs.map Dc.val)) ∧ H a = none
  | .tab _ ks xs => ∃ a, c = .ref a ∧ Hi a = some (.dK (Dc.kvs ks xs)) ∧ H a = none
def rootOf (p : V × Dc) : Option Addr := match p.1 with
  | .ref a => some a
  | _ => none
abbrev roots (ps : List (V × Dc)) : List Addr := ps.filterMap rootOf
def DoneL : List (V × Dc) → List Dc → Prop
  | [], [] => True
  | p :: ps, e :: es => e.val = p.1 ∧ Dc.like p.2 e ∧ DoneL ps es
  | _, _ => False
structure CpInv (H Hi : Hp) (L : Addr) (tv : V) (d : Dc) (ps : List (V × Dc)) : Prop where
  same : Same H Hi
  nL : H L = none
  eL : Hi L = some (.lst (ps.map (·.1)))
  out : ∀ p ∈ ps, OutC H Hi p.1 p.2
  src : ∀ p ∈ ps, p.2.At H ∧ p.2.slim
  nd : (roots ps).Nodup
  nLr : L ∉ roots ps
  wand : ∀ (es : List Dc) (H' : Hp), DoneL ps es → FreshL H H' es → (∀ c ∈ Dc.addrsL es, Hi c = none ∨ c ∈ roots ps) → (∀ b o, b ≠ L → b ∉ roots ps → Hi b = some o → H' b = some o) → ∃ e : Dc, e.val = tv ∧ Dc.like d e ∧ Fresh H H' e
def OuterQ (H : Hp) (Q : VK) : Dc → Prop
  | .leaf v => Q v H
  | .row _ xs => ∀ p, H p = none → Q (.ref p) (upd H p (.lst (xs.map Dc.val)))
  | .tab _ ks xs => ∀ p, H p = none → Q (.ref p) (upd H p (.dK (Dc.kvs ks xs)))
inductive spOuterI (vs : List V) (H : Hp) (Q : VK) (u3_ : XK) : Prop
  | mk (d : Dc) (x0 : vs = [d.val]) (x1 : d.At H) (x2 : OuterQ H Q d) : spOuterI  vs H Q u3_
inductive spCopyOfI (vs : List V) (H : Hp) (Q : VK) (u3_ : XK) : Prop
  | mk (d : Dc) (x0 : vs = [d.val]) (x1 : d.At H) (x2 : d.slim) (x3 : d.size ≤ 900) (x4 : ∀ (d' : Dc) (H' : Hp), Fresh H H' d' → Dc.like d d' → Q d'.val H') : spCopyOfI  vs H Q u3_
end L2
namespace L2
open PySem PySem.Spec PyProof.Rows
end L2

set_option Elab.async false
set_option linter.all false
set_option maxRecDepth 100000
set_option maxHeartbeats 4000000
namespace L2
open PySem PySem.Spec PyProof.Rows
namespace Dc
inductive Eqv : Dc → Dc → Prop where
  | leaf (v : V) : Eqv (leaf v) (leaf v)
  | row {a b : Addr} {xs ys : List Dc} (l : xs.length = ys.length) (h : ∀ (i : Nat) x y, xs[i]? = some x → ys[i]? = some y → Eqv x y) : Eqv (row a xs) (row b ys)
  | tab {a b : Addr} {ks ls : List Str} {xs ys : List Dc} (p : ks.Perm ls) (h : ∀ k x y, (ks.zip xs).lookup k = some x → (ls.zip ys).lookup k = some y → Eqv x y) : Eqv (tab a ks xs) (tab b ls ys)
theorem zip_like {ks : List Str} : ∀ {xs ys : List Dc}, likeL xs ys → ∀ {k : Str} {x y : Dc}, (ks.zip xs).lookup k = some x → (ks.zip ys).lookup k = some y → ∃ i : Nat, xs[i]? = some x ∧ ys[i]? = some y := by
  induction ks with
  | nil => intro xs ys _ k x y h; simp at h
  | cons z r ih =>
    intro xs ys hl k x y h1 h2
    cases xs with
    | nil => simp at h1
    | cons x0 xs =>
      cases ys with
      | nil => simp at h2
      | cons y0 ys =>
        simp only [likeL] at hl
        simp only [List.zip_cons_cons, List.lookup_cons] at h1 h2
        by_cases e : k = z
        · subst e
          simp at h1 h2
          exact ⟨0, by simp [h1], by simp [h2]⟩
        · have : (k == z) = false := by simpa using e
          rw [this] at h1 h2
          obtain ⟨i, g1, g2⟩ := ih hl.2 h1 h2
          exact ⟨i + 1, by simpa using g1, by simpa using g2⟩
inductive Wf : Dc → Prop where
  | leaf (v : V) : Wf (leaf v)
  | row {a : Addr} {xs : List Dc} (h : ∀ x ∈ xs, Wf x) : Wf (row a xs)
  | tab {a : Addr} {ks : List Str} {xs : List Dc} (l : ks.length = xs.length) (n : ks.Nodup) (h : ∀ x ∈ xs, Wf x) : Wf (tab a ks xs)
def ix (ks : List Str) (k : Str) : Nat := ks.findIdx (· == k)
def setP : Dc → List V → Dc → Dc
  | _, [], n => n
  | row a xs, .int i :: r, n => row a (match xs[i.toNat]? with | some x => xs.set i.toNat (setP x r n) | none => xs)
  | tab a ks xs, .str k :: r, n => tab a ks (match xs[ix ks k]? with | some x => xs.set (ix ks k) (setP x r n) | none => xs)
  | d, _ :: _, _ => d
def room : Dc → V → Bool
  | row _ xs, .int i => decide (0 ≤ i) && decide (i ≤ (xs.length : Int))
  | tab _ ks _, .str k => !ks.contains k
  | _, _ => false
def insN : Dc → V → Dc → Dc
  | row a xs, .int i, v => row a (xs.take i.toNat ++ v :: xs.drop i.toNat)
  | tab a ks xs, .str k, v => tab a (ks ++ [k]) (xs ++ [v])
  | d, _, _ => d
def delN : Dc → V → Dc
  | row a xs, .int i => row a (xs.eraseIdx i.toNat)
  | tab a ks xs, .str k => tab a (ks.eraseIdx (ix ks k)) (xs.eraseIdx (ix ks k))
  | d, _ => d
end Dc
end L2

set_option Elab.async false
set_option linter.all false
set_option maxRecDepth 100000
set_option maxHeartbeats 4000000
namespace L2
open PySem PySem.Spec PyProof.Rows
namespace Dc
end Dc
end L2

set_option Elab.async false
set_option linter.all false
set_option maxRecDepth 100000
set_option maxHeartbeats 4000000
namespace L2
open PySem PySem.Spec PyProof.Rows
namespace Dc
end Dc
inductive spHoldsI (vs : List V) (H : Hp) (Q : VK) (u3_ : XK) : Prop
  | mk (d : Dc) (z : V) (x0 : vs = [d.val, z]) (x1 : d.At H) (x2 : Dc.StepV z) (x3 : Q (.bl (d.sub [z]).isSome) H) : spHoldsI  vs H Q u3_
inductive spFoundI (vs : List V) (H : Hp) (Q : VK) (u3_ : XK) : Prop
  | mk (d : Dc) (t : Addr) (xs : List V) (e : Dc) (x0 : vs = [d.val, .ref t]) (x1 : d.At H) (x2 : H t = some (.tup xs)) (x3 : (∀ z ∈ xs, Dc.StepV z)) (x4 : d.sub xs = some e) (x5 : Q e.val H) : spFoundI  vs H Q u3_
inductive spHolderI (vs : List V) (H : Hp) (Q : VK) (u3_ : XK) : Prop
  | mk (d : Dc) (t : Addr) (us : List V) (lv : V) (e : Dc) (x0 : vs = [d.val, .ref t]) (x1 : d.At H) (x2 : H t = some (.tup (us ++ [lv]))) (x3 : (∀ z ∈ us ++ [lv], Dc.StepV z)) (x4 : d.sub us = some e) (x5 : ∀ H', Same H H' → Q e.val H') : spHolderI  vs H Q u3_
inductive spFullI (vs : List V) (H : Hp) (Q : VK) (u3_ : XK) : Prop
  | mk (d : Dc) (t : Addr) (us : List V) (lv : V) (e : Dc) (x : Dc) (x0 : vs = [d.val, .ref t]) (x1 : d.At H) (x2 : H t = some (.tup (us ++ [lv]))) (x3 : (∀ z ∈ us ++ [lv], Dc.StepV z)) (x4 : d.sub us = some e) (x5 : e.sub [lv] = some x) (x6 : ∀ H', Same H H' → Q e.val H') : spFullI  vs H Q u3_
inductive spRoomI (vs : List V) (H : Hp) (Q : VK) (u3_ : XK) : Prop
  | mk (d : Dc) (z : V) (x0 : vs = [d.val, z]) (x1 : d.At H) (x2 : Dc.StepV z) (x3 : Q (.bl (d.room z)) H) : spRoomI  vs H Q u3_
inductive spPutI (vs : List V) (H : Hp) (Q : VK) (u3_ : XK) : Prop
  | mk (d : Dc) (v : Dc) (t : Addr) (us : List V) (lv : V) (e : Dc) (x0 : vs = [d.val, .ref t, v.val]) (x1 : d.At H) (x2 : d.slim) (x3 : d.size ≤ 800) (x4 : v.At H) (x5 : v.slim) (x6 : v.size ≤ 900) (x7 : H t = some (.tup (us ++ [lv]))) (x8 : (∀ z ∈ us ++ [lv], Dc.StepV z)) (x9 : d.sub us = some e) (x10 : e.room lv = true) (x11 : ∀ (d' : Dc) (H' : Hp), Fresh H H' d' → Dc.Eqv (d.setP us (e.insN lv v)) d' → Q d'.val H') : spPutI  vs H Q u3_
inductive spTakenI (vs : List V) (H : Hp) (Q : VK) (u3_ : XK) : Prop
  | mk (d : Dc) (t : Addr) (us : List V) (lv : V) (e : Dc) (x : Dc) (x0 : vs = [d.val, .ref t]) (x1 : d.At H) (x2 : d.slim) (x3 : d.size ≤ 900) (x4 : H t = some (.tup (us ++ [lv]))) (x5 : (∀ z ∈ us ++ [lv], Dc.StepV z)) (x6 : d.sub us = some e) (x7 : e.sub [lv] = some x) (x8 : ∀ (q : Addr) (d' x' : Dc) (H' : Hp), FreshL H H' [d', x'] → H' q = some (.tup [d'.val, x'.val]) → Dc.Eqv (d.setP us (e.delN lv)) d' → Dc.Eqv x x' → Q (.ref q) H') : spTakenI  vs H Q u3_
inductive spLeaf2I (vs : List V) (H : Hp) (Q : VK) (u3_ : XK) : Prop
  | mk (c : Int) (k : Nat) (x0 : vs = [.int c, .int (k : Int)]) (x1 : k ≤ 1000) (x2 : ∀ v H', LeafV v → Same H H' → Q v H') : spLeaf2I  vs H Q u3_
inductive spNames1I (vs : List V) (H : Hp) (Q : VK) (u3_ : XK) : Prop
  | mk (c : Int) (x0 : vs = [.int c]) (x1 : ∀ (p : Addr) (ys : List Str) (H' : Hp), Same H H' → H p = none → H' p = some (.lst (ys.map V.str)) → ys.length = 6 → ys.Nodup → (∀ y ∈ ys, nameB y = true) → Q (.ref p) H') : spNames1I  vs H Q u3_
end L2
namespace L2
open PySem PySem.Spec PyProof.Rows
section
variable {X : Cx} {CX : CXT} {k : Nat} {f : Addr} {fd : FuncData} {ps : List Str} {ds : List Value} {dvs : List V} {sp : Sp} {E : XK} {x : Str} {p pos : Pos} {e : Expr} {es : List Expr} {t : TA} {tf : TE}
end
inductive spGatheredI (fI : Addr) (vs : List V) (H : Hp) (Q : VK) (u3_ : XK) : Prop
  | mk (d : Dc) (x0 : vs = [d.val, .ref fI]) (x1 : d.At H) (x2 : d.slim) (x3 : d.size ≤ 900) (x4 : ∀ (p : Addr) (ws : List Dc) (H' : Hp), Same H H' → H p = none → H' p = some (.lst (ws.map Dc.val)) → ws.length = d.size → Q (.ref p) H') : spGatheredI fI vs H Q u3_
end L2

set_option Elab.async false
set_option linter.all false
set_option maxRecDepth 100000
set_option maxHeartbeats 4000000
namespace L2
open PySem PySem.Spec PyProof.Rows
inductive EqX (K : PySem.W.Frag) (H : Hp) : Nat → V → V → Prop
  | flat {n : Nat} {x y : V} (fx : flatV x = true) (fy : flatV y = true) (e : eqV x y = true) : EqX K H n x y
  | same {n : Nat} {a : Addr} : EqX K H n (.ref a) (.ref a)
  | lst {n : Nat} {a b : Addr} {xs ys : List V} (ha : SqL K H a xs) (hb : SqL K H b ys) (l : xs.length = ys.length) (h : ∀ (i : Nat) u v, xs[i]? = some u → ys[i]? = some v → EqX K H n u v) : EqX K H (n + 1) (.ref a) (.ref b)
  | tup {n : Nat} {a b : Addr} {xs ys : List V} (ha : SqT K H a xs) (hb : SqT K H b ys) (l : xs.length = ys.length) (h : ∀ (i : Nat) u v, xs[i]? = some u → ys[i]? = some v → EqX K H n u v) : EqX K H (n + 1) (.ref a) (.ref b)
inductive EqXs (K : PySem.W.Frag) (H : Hp) (n : Nat) : List V → List V → Prop
  | nil : EqXs K H n [] []
  | cons {x y : V} {xs ys : List V} (h : EqX K H n x y) (t : EqXs K H n xs ys) : EqXs K H n (x :: xs) (y :: ys)
section
variable {X : Cx} {pins : List (Addr × Obj)} {σ : St} {H : Hp} {s : Shared}
theorem arr_at {its : List Value} {j : Nat} {u : Value} (g : its[j]? = some u) (h : j < its.toArray.size) : its.toArray[j] = u := by
  have := (List.getElem?_eq_some_iff.mp g).2
  simpa using this
theorem vals_at {xs : List V} {its : List Value} (r : Vals xs its) {j : Nat} (h : j < its.toArray.size) : ∃ x, xs[j]? = some x ∧ RelV x its.toArray[j] := by
  have e : its.toArray.size = xs.length := by rw [List.size_toArray]; exact r.length.symm
  have h' : j < xs.length := by rw [← e]; exact h
  obtain ⟨u, g, ru⟩ := r.get (List.getElem?_eq_getElem h')
  exact ⟨_, List.getElem?_eq_getElem h', by rw [arr_at g h]; exact ru⟩
inductive rEqX (K : PySem.W.Frag) (b0 : Bool) (x y : V) (H : Hp) (Q : VK) : Prop
  | mk (a b : Addr) (xs ys : List V) (x0 : x = .ref a) (x1 : y = .ref b) (ha : SqL K H a xs) (hb : SqL K H b ys) (h : EqXs K H 20 xs ys) (q : Q (.bl b0) H) : rEqX K b0 x y H Q
end
def keyD : Key → PyData
  | .inl i => .int i
  | .inr x => .str x
mutual
inductive Sees (H : Hp) : V → PyData → Prop
  | non : Sees H .non .none
  | bl (b : Bool) : Sees H (.bl b) (.bool b)
  | int (i : Int) : Sees H (.int i) (.int i)
  | str (x : Str) : Sees H (.str x) (.str x)
  | lst {a : Addr} {xs : List V} {ds : List PyData} (h : Rd H a (.lst xs)) (r : SeesAll H xs ds) : Sees H (.ref a) (.list ds)
  | tup {a : Addr} {xs : List V} {ds : List PyData} (h : H a = some (.tup xs)) (r : SeesAll H xs ds) : Sees H (.ref a) (.tuple ds)
  | dct {a : Addr} {kvs : List (Key × V)} {ds : List PyData} (h : Rd H a (.dK kvs)) (r : SeesAll H (kvs.map (·.2)) ds) : Sees H (.ref a) (.dict ((kvs.map fun p => keyD p.1).zip ds))
  | oth {v : V} {d : PyData} (r : ∀ H', Same H H' → ∀ (P : Program) (w : World) (h : Heap), HOk P w H' h → ∀ u, RelV v u → ∃ as, Reads h u d as ∧ ∀ b ∈ as, ∃ o, H' b = some o) : Sees H v d
inductive SeesAll (H : Hp) : List V → List PyData → Prop
  | nil : SeesAll H [] []
  | cons {x : V} {d : PyData} {xs : List V} {ds : List PyData} (h : Sees H x d) (t : SeesAll H xs ds) : SeesAll H (x :: xs) (d :: ds)
end
theorem kv_vals {κ : Type} {kvs : List (κ × V)} {vs : List (κ × Value)} (r : KV kvs vs) : Vals (kvs.map (·.2)) (vs.map (·.2)) := by
  unfold KV at r
  induction r with
  | nil => exact .nil
  | cons h _ ih => exact .cons h.2 ih
inductive rReprI (xs : List V) (H : Hp) (Q : VK) : Prop
  | mk (a : Addr) (d : PyData) (e : xs = [.ref a]) (h : Sees H (.ref a) d) (s : d.showable = true) (z : d.shown.length ≤ sizeLine) (dp : d.depth ≤ 150) (q : Q (.str d.shown) H) : rReprI xs H Q
end L2

set_option Elab.async false
set_option linter.all false
set_option maxRecDepth 100000
set_option maxHeartbeats 4000000
namespace L2
open PySem PySem.Spec PyProof.Rows
theorem at0 {x : V} {r : List V} : atI (x :: r) 0 = some x := atI_nat (j := 0) rfl
theorem at1 {x y : V} {r : List V} : atI (x :: y :: r) 1 = some y := atI_nat (j := 1) rfl
theorem at2 {x y z : V} {r : List V} : atI (x :: y :: z :: r) 2 = some z := atI_nat (j := 2) rfl
theorem ite2B {c : Bool} {A B : Prop} (h1 : c = true → A) (h2 : c = false → B) : if c = true then A else B := by
  cases c with
  | true => exact iteT (h1 rfl)
  | false => exact iteF (h2 rfl)
theorem seq_st {t u : TS} {D : Ends} {σ : St} {H : Hp} (R : St → Hp → Prop) (k : ∀ σ' H', R σ' H' → u D σ' H') (h : (∀ σ' H', R σ' H' → u D σ' H') → t { D with nx := u D } σ H) : tSeq t u D σ H := h k
def plc : V → Bool
  | .str _ => false
  | _ => true
def aheadP (zs xs : List V) : List V :=
  match zs[xs.length - 1]?, xs.getLast? with
  | some (.int i), some (.int j) => if eqTs (zs.take (xs.length - 1)) xs.dropLast = true ∧ (j < i ∨ (i = j ∧ xs.length < zs.length)) then zs.set (xs.length - 1) (.int (i + 1)) else zs
  | _, _ => zs
def toP (w : Str) (xs zs : List V) : List V := if w = "copy" then zs else if w = "move" then aheadP zs xs else xs
def steps (xs : List V) : Prop := ∀ z ∈ xs, Dc.StepV z
def words9 : List Str := ["put", "take", "move", "copy", "change", "ask", "has", "lacks", "is"]
structure Rw (H : Hp) (r : V) (w : Str) (xs zs : List V) (p : Addr) : Prop where
  ex : ∃ (a : Addr) (rest : List V), r = .ref a ∧ H a = some (.tup (.str w :: .ref p :: rest)) ∧ (w = "copy" ∨ w = "move" → ∃ p2, rest = [.ref p2] ∧ H p2 = some (.tup zs))
  hp : H p = some (.tup xs)
  sx : steps xs
  sz : steps zs
  lx : xs.length ≤ 100
  lz : zs.length ≤ 100
  wd : w ∈ words9
  nx : w = "put" ∨ w = "lacks" ∨ w = "take" ∨ w = "move" → xs ≠ []
  nz : w = "copy" ∨ w = "move" → zs ≠ []
def PairAt (H : Hp) (v : V) (ys : List V) : Prop := ∃ (t h : Addr) (l : V), v = .ref t ∧ H t = some (.tup [.ref h, l]) ∧ H h = some (.tup ys.dropLast) ∧ ys.getLast? = some l
def wordsCs : List Str := ["put", "copy", "move"]
abbrev wordsC : List V := wordsCs.map V.str
theorem inV_strs (w : Str) : ∀ ws : List Str, inV (.str w) (ws.map V.str) = decide (w ∈ ws)
  | [] => by simp [inV]
  | x :: ws => by
    have ih := inV_strs w ws
    simp only [inV, List.map_cons, List.any_cons] at ih ⊢
    rw [ih]
    by_cases e : w = x
    · subst e; simp [eqV]
    · have e2 : ¬ x = w := fun z => e z.symm
      simp [eqV, e, e2]
def CmAt (H : Hp) (v : V) (w : Str) (xs zs : List V) : Prop := if inV (.str w) wordsC then PairAt H v (toP w xs zs) else v = .non
inductive TupsAt (H : Hp) : List Addr → List (List V) → Prop
  | nil : TupsAt H [] []
  | cons {a : Addr} {xs : List V} {as : List Addr} {xss : List (List V)} (h : H a = some (.tup xs)) (t : TupsAt H as xss) : TupsAt H (a :: as) (xs :: xss)
structure Nd (H H' : Hp) (l : Addr) (ps : List Addr) (xss : List (List V)) : Prop where
  same : Same H H'
  nl : H l = none
  hl : H' l = some (.lst (ps.map V.ref))
  tu : TupsAt H' ps xss
def BrAt (H : Hp) (v : V) (w : Str) (xs zs : List V) : Prop := if w = "lacks" then PairAt H v xs else if inV (.str w) wordsC = true ∧ plc ((toP w xs zs).getLastD .non) = false then PairAt H v (toP w xs zs) else v = .non
end L2
namespace L2
open PySem PySem.Spec PyProof.Rows
def NoT (H : Hp) (v : V) : Prop := v = .non ∨ ∃ (a : Addr) (ys : List V), v = .ref a ∧ H a = some (.tup ys)
def low (xs : List V) : Prop := ∀ z ∈ xs, ∀ i : Int, z = .int i → i.natAbs < 1000
def SlotsAt (H : Hp) (vs : List V) : Prop := ∀ v ∈ vs, ∃ (p : Addr) (xs : List V), v = .ref p ∧ H p = some (.tup xs) ∧ steps xs ∧ xs ≠ [] ∧ xs.length ≤ 20 ∧ low xs
def Shows (H : Hp) (v : V) : Prop := ∃ d : PyData, Sees H v d ∧ d.showable = true ∧ d.shown.length ≤ sizeLine ∧ d.depth ≤ 100
end L2
namespace L2
open PySem PySem.Spec PyProof.Rows
def Fin1 (H : Hp) (v : V) (b n : Nat) : Prop := ∃ D : PyData, Sees H v D ∧ D.showable = true ∧ D.leavesShort 2000 = true ∧ D.bulk ≤ b ∧ D.depth ≤ n
def FinL (H : Hp) (xs : List V) (b n : Nat) : Prop := ∃ Ds : List PyData, SeesAll H xs Ds ∧ PyData.showableAll Ds = true ∧ PyData.leavesShortAll 2000 Ds = true ∧ PyData.bulkAll Ds ≤ b ∧ PyData.depthAll Ds ≤ n
end L2

set_option Elab.async false
set_option linter.all false
set_option maxRecDepth 100000
set_option maxHeartbeats 4000000
namespace L2
open PySem PySem.Spec PyProof.Rows
section
variable {prog : Program} {w : World} {A : Around} {E : Value → Shared → Prop} {s : Shared}
abbrev ZipB (h : Heap) (z TI TO T : Addr) (f : Bool) : Prop :=
  h.get? z = some { cls := .type "zip", dict := none, data := .fields #[rawInt T, .bool f, .bool false, .ref TI, .ref TO], slots := #[] }
theorem zip_busy {z TI TO T : Addr} {f : Bool} {oT : Obj} {Q : Bool → Shared → Prop} (hz : ZipB s.heap z TI TO T f) (hT : s.heap.get? T = some oT)
    (hQ : ∀ h', ZipB h' z TI TO T true → Heap.SameBut z s.heap h' → Q false { s with heap := h' }) : wpAny (model prog w) A (Builtin.SmallTypes.ownedTupleIsFree (.ref z)) Q E s := by
  unfold Builtin.SmallTypes.ownedTupleIsFree
  refine wpAny_bind (wpAny_field hz rfl (x := rawInt T) rfl ?_)
  show wpAny _ _ (loadIfAlive ((T : Int).toNat) >>= _) _ _ _
  rw [Int.toNat_natCast]
  refine wpAny_bind (PySem.W.kdx_alive hT ?_)
  show wpAny _ _ (field (.ref z) 1 >>= _) _ _ _
  refine wpAny_bind (wpAny_field hz rfl (x := .bool f) rfl ?_)
  cases f with
  | true =>
    show wpAny _ _ (pure false) _ _ _
    exact wpAny_pure (hQ s.heap hz (Heap.SameBut.refl _ _))
  | false =>
    show wpAny _ _ (setField (.ref z) 1 (.bool true) >>= _) _ _ _
    exact wpAny_bind (wpAny_setField_rec hz (by simp) fun h₁ hz₁ hs₁ => wpAny_pure (hQ h₁ hz₁ hs₁))
theorem zip_next_busy {z TI TO i1 i2 l1 l2 T : Addr} {f : Bool} {oT : Obj} {k1 k2 : Nat} {xs ys : Array Value} {x y : Value} {Q : Value → Shared → Prop} (D : ZipApart z TI TO i1 i2 l1 l2)
    (hz : ZipB s.heap z TI TO T f) (hT : s.heap.get? T = some oT) (hTI : IsPair s.heap TI (.ref i1) (.ref i2))
    (h1 : s.heap.IsListIter i1 l1 k1) (h2 : s.heap.IsListIter i2 l2 k2) (hl1 : s.heap.IsList l1 xs) (hl2 : s.heap.IsList l2 ys) (hx : xs[k1]? = some x) (hy : ys[k2]? = some y)
    (hQ : ∀ h', ZipB h' z TI TO T true → h'.IsListIter i1 l1 (k1 + 1) → h'.IsListIter i2 l2 (k2 + 1) → IsPair h' s.heap.objs.size x y → h'.objs.size = s.heap.objs.size + 1 →
      (∀ c o, c ≠ z → c ≠ i1 → c ≠ i2 → s.heap.get? c = some o → h'.get? c = some o) → Q (.ref s.heap.objs.size) { s with heap := h' }) :
    wpAny (model prog w) A (Builtin.«zip.__next__» ⟨[.ref z], []⟩) (fun fin s' => ∃ v, fin = .done (.ret v) ∧ Q v s') E s := by
  show wpAny _ _ (field (.ref z) 2 >>= _) _ _ _
  refine wpAny_bind (wpAny_field hz rfl (x := .bool false) rfl ?_)
  show wpAny _ _ (field (.ref z) 3 >>= _) _ _ _
  refine wpAny_bind (wpAny_field hz rfl (x := .ref TI) rfl ?_)
  refine wpAny_bind (wpAny_seqItems hTI rfl ?_)
  show wpAny _ _ (Builtin.SmallTypes.ownedTupleIsFree (.ref z) >>= _) _ _ _
  refine wpAny_bind (zip_busy hz hT fun h₁ hz₁ hs₁ => ?_)
  simp only [Bool.false_eq_true, if_false]
  refine wpAny_bind ?_
  rw [← Array.forIn_toList]
  show wpAny _ _ (forIn [Value.ref i1, Value.ref i2] _ _) _ _ _
  rw [List.forIn_cons]
  refine wpAny_bind (wpAny_bind (wpAny_holding ?_))
  show wpAny _ _ (Builtin.SmallTypes.nextOf (.ref i1) >>= _) _ _ _
  refine wpAny_bind (wpAny_nextOf_list_item (h1.extBut hs₁.extBut D.i1z) (hl1.extBut hs₁.extBut D.l1z) hx fun h₂ h1₂ hs₂ => wpAny_pure ?_)
  refine wpAny_pure ?_
  dsimp only
  rw [List.forIn_cons]
  refine wpAny_bind (wpAny_bind (wpAny_holding ?_))
  show wpAny _ _ (Builtin.SmallTypes.nextOf (.ref i2) >>= _) _ _ _
  refine wpAny_bind (wpAny_nextOf_list_item ((h2.extBut hs₁.extBut D.i2z).extBut hs₂.extBut D.i12.symm) ((hl2.extBut hs₁.extBut D.l2z).extBut hs₂.extBut D.l2i1) hy fun h₃ h2₃ hs₃ => wpAny_pure ?_)
  refine wpAny_pure ?_
  dsimp only
  rw [List.forIn_nil]
  refine wpAny_pure ?_
  show wpAny _ _ (newTuple [x, y] >>= _) _ _ _
  refine wpAny_bind (wpAny_newTuple ?_)
  have hsz : h₃.objs.size = s.heap.objs.size := by rw [hs₃.1, hs₂.1, hs₁.1]
  refine wpAny_pure ⟨_, rfl, ?_⟩
  show Q (.ref h₃.objs.size) _
  rw [hsz]
  have up : ∀ c o, c ≠ z → c ≠ i1 → c ≠ i2 → s.heap.get? c = some o → (h₃.push { cls := .type "tuple", data := .seq #[x, y] }).get? c = some o := fun c o c1 c2 c3 e =>
    Heap.get?_push_of_some _ (hs₃.extBut _ _ c3 (hs₂.extBut _ _ c2 (hs₁.extBut _ _ c1 e)))
  refine hQ _ (Heap.get?_push_of_some _ (hs₃.extBut _ _ D.i2z.symm (hs₂.extBut _ _ D.i1z.symm hz₁))) ((h1₂.extBut hs₃.extBut D.i12).at fun o e => Heap.get?_push_of_some _ e) (h2₃.at fun o e => Heap.get?_push_of_some _ e) ?_ (by rw [Heap.size_push, hsz]) up
  have this : (h₃.push { cls := .type "tuple", data := .seq #[x, y] }).get? h₃.objs.size = some { cls := .type "tuple", data := .seq #[x, y] } := Heap.get?_push_size _ rfl
  rw [hsz] at this
  exact this
theorem zip_end_busy {z TI TO i1 i2 l1 l2 T : Addr} {f : Bool} {oT : Obj} {k1 : Nat} {xs : Array Value} {Q : Fin → Shared → Prop} (hh : A.handled = none) (D : ZipApart z TI TO i1 i2 l1 l2)
    (hz : ZipB s.heap z TI TO T f) (hT : s.heap.get? T = some oT) (hTI : IsPair s.heap TI (.ref i1) (.ref i2))
    (h1 : s.heap.IsListIter i1 l1 k1) (hl1 : s.heap.IsList l1 xs) (hend : xs[k1]? = none)
    (hE : ∀ h' e, (∀ c o, c ≠ z → c ≠ i1 → s.heap.get? c = some o → h'.get? c = some o) → (∃ o, h'.get? e = some o ∧ o.cls = .type "StopIteration") → E (.ref e) { s with heap := h' }) :
    wpAny (model prog w) A (Builtin.«zip.__next__» ⟨[.ref z], []⟩) Q E s := by
  show wpAny _ _ (field (.ref z) 2 >>= _) _ _ _
  refine wpAny_bind (wpAny_field hz rfl (x := .bool false) rfl ?_)
  show wpAny _ _ (field (.ref z) 3 >>= _) _ _ _
  refine wpAny_bind (wpAny_field hz rfl (x := .ref TI) rfl ?_)
  refine wpAny_bind (wpAny_seqItems hTI rfl ?_)
  show wpAny _ _ (Builtin.SmallTypes.ownedTupleIsFree (.ref z) >>= _) _ _ _
  refine wpAny_bind (zip_busy hz hT fun h₁ hz₁ hs₁ => ?_)
  simp only [Bool.false_eq_true, if_false]
  refine wpAny_bind ?_
  rw [← Array.forIn_toList]
  show wpAny _ _ (forIn [Value.ref i1, Value.ref i2] _ _) _ _ _
  rw [List.forIn_cons]
  refine wpAny_bind (wpAny_bind (wpAny_holding ?_))
  show wpAny _ _ (Builtin.SmallTypes.nextOf (.ref i1) >>= _) _ _ _
  refine wpAny_bind (wpAny_nextOf_list_end hh (h1.extBut hs₁.extBut D.i1z) (hl1.extBut hs₁.extBut D.l1z) hend fun h₂ e hs₂ he => hE h₂ e (fun c o c1 c2 x => hs₂ _ _ c2 (hs₁.extBut _ _ c1 x)) he)
structure ZSt (h : Heap) (z TI TO i1 i2 l1 l2 S : Addr) (i : Nat) (xs ys : Array Value) : Prop where
  st : (i = 0 ∧ IsZip h z TI TO .none ∧ ∃ a b, IsPair h TO a b) ∨ ∃ T f oT, ZipB h z TI TO T f ∧ h.get? T = some oT ∧ T ≠ z ∧ T ≠ i1 ∧ T ≠ i2 ∧ T ≠ S
  ti : IsPair h TI (.ref i1) (.ref i2)
  h1 : h.IsListIter i1 l1 i
  h2 : h.IsListIter i2 l2 i
  L1 : h.IsList l1 xs
  L2 : h.IsList l2 ys
theorem ZSt.keep {h h' : Heap} {z TI TO i1 i2 l1 l2 S : Addr} {i : Nat} {xs ys : Array Value} (x : ZSt h z TI TO i1 i2 l1 l2 S i xs ys) (hk : ∀ b o, b ≠ S → h.get? b = some o → h'.get? b = some o) (n : z ≠ S ∧ TI ≠ S ∧ TO ≠ S ∧ i1 ≠ S ∧ i2 ≠ S ∧ l1 ≠ S ∧ l2 ≠ S) : ZSt h' z TI TO i1 i2 l1 l2 S i xs ys := by
  obtain ⟨st, ti, h1, h2, L1, L2⟩ := x
  refine ⟨?_, hk _ _ n.2.1 ti, h1.at fun o e => hk _ o n.2.2.2.1 e, h2.at fun o e => hk _ o n.2.2.2.2.1 e, L1.at fun o e => hk _ o n.2.2.2.2.2.1 e, L2.at fun o e => hk _ o n.2.2.2.2.2.2 e⟩
  rcases st with ⟨e, hz, a, b, hp⟩ | ⟨T, f, oT, hz, hT, t1, t2, t3, t4⟩
  · exact .inl ⟨e, hk _ _ n.1 hz, a, b, hk _ _ n.2.2.1 hp⟩
  · exact .inr ⟨T, f, oT, hk _ _ n.1 hz, hk _ _ t4 hT, t1, t2, t3, t4⟩
theorem zst_item {z TI TO i1 i2 l1 l2 S : Addr} {i : Nat} {xs ys : Array Value} {x y : Value} {Q : Option Value → Shared → Prop} (D : ZipApart z TI TO i1 i2 l1 l2) (st : ZSt s.heap z TI TO i1 i2 l1 l2 S i xs ys) (hS : S < s.heap.objs.size) (hx : xs[i]? = some x) (hy : ys[i]? = some y)
    (hQ : ∀ h', ZSt h' z TI TO i1 i2 l1 l2 S (i + 1) xs ys → IsPair h' s.heap.objs.size x y → h'.objs.size = s.heap.objs.size + 1 → (∀ c o, c ≠ z → c ≠ TO → c ≠ i1 → c ≠ i2 → s.heap.get? c = some o → h'.get? c = some o) → Q (some (.ref s.heap.objs.size)) { s with heap := h' }) :
    wpAny (model prog w) A (pyNext (.ref z)) Q E s := by
  obtain ⟨st, ti, h1, h2, L1, L2⟩ := st
  have lt : ∀ {c o}, s.heap.get? c = some o → s.heap.objs.size ≠ c := fun e => Nat.ne_of_gt (Heap.lt_size e)
  have n1 : s.heap.objs.size ≠ i1 := by obtain ⟨_, e, _⟩ := h1; exact lt e
  have n2 : s.heap.objs.size ≠ i2 := by obtain ⟨_, e, _⟩ := h2; exact lt e
  rcases st with ⟨rfl, hz, a, b, hp⟩ | ⟨T, f, oT, hz, hT, t1, t2, t3, t4⟩
  · refine wpAny_pyNext_zip_item D hz ti hp h1 h2 L1 L2 hx hy fun h' a1 a2 a3 a4 a5 a6 hk => ?_
    exact hQ h' ⟨.inr ⟨s.heap.objs.size, false, _, a1, a5, lt hz, n1, n2, Nat.ne_of_gt hS⟩, hk _ _ D.TIz D.TITO D.TIi1 D.TIi2 ti, a3, a4, L1.at fun o e => hk _ o D.l1z D.l1TO D.l1i1 D.l1i2 e, L2.at fun o e => hk _ o D.l2z D.l2TO D.l2i1 D.l2i2 e⟩ a5 a6 hk
  · have hTy : s.TypeIs (.ref z) "zip" := ⟨_, hz, rfl⟩
    unfold pyNext
    exact wpAny_bind (wpAny_attempt (wpAny_callSpecial?_slot (name := Str.ofString "__next__") hTy F.slot_zip_next
      (wpAny_call_entry F.slot_zip_next hTy F.entry_zip_next
        (zip_next_busy D hz hT ti h1 h2 L1 L2 hx hy fun h' a1 a3 a4 a5 a6 hk => wpAny_pure (hQ h' ⟨.inr ⟨T, true, oT, a1, hk _ _ t1 t2 t3 hT, t1, t2, t3, t4⟩, hk _ _ D.TIz D.TIi1 D.TIi2 ti, a3, a4, L1.at fun o e => hk _ o D.l1z D.l1i1 D.l1i2 e, L2.at fun o e => hk _ o D.l2z D.l2i1 D.l2i2 e⟩ a5 a6 fun c o c1 _ c3 c4 e => hk c o c1 c3 c4 e)) (F.args_zip_next_1 _))))
theorem zst_done {z TI TO i1 i2 l1 l2 S : Addr} {i : Nat} {xs ys : Array Value} {Q : Option Value → Shared → Prop} (hh : A.handled = none) (D : ZipApart z TI TO i1 i2 l1 l2) (st : ZSt s.heap z TI TO i1 i2 l1 l2 S i xs ys) (hx : xs[i]? = none)
    (hQ : ∀ h', (∀ c o, c ≠ z → c ≠ TO → c ≠ i1 → c ≠ i2 → s.heap.get? c = some o → h'.get? c = some o) → Q none { s with heap := h' }) : wpAny (model prog w) A (pyNext (.ref z)) Q E s := by
  obtain ⟨st, ti, h1, h2, L1, L2⟩ := st
  rcases st with ⟨rfl, hz, a, b, hp⟩ | ⟨T, f, oT, hz, hT, t1, t2, t3, t4⟩
  · exact wpAny_pyNext_zip_end hh D hz ti hp h1 h2 L1 L2 (.inl hx) hQ
  · have hTy : s.TypeIs (.ref z) "zip" := ⟨_, hz, rfl⟩
    unfold pyNext
    refine wpAny_bind (wpAny_attempt (wpAny_callSpecial?_slot (name := Str.ofString "__next__") hTy F.slot_zip_next
      (wpAny_call_entry F.slot_zip_next hTy F.entry_zip_next (zip_end_busy hh D hz hT ti h1 L1 hx fun h' e hk he => ?_) (F.args_zip_next_1 _))))
    obtain ⟨o, ho, hc⟩ := he
    refine wpAny_bind (wpAny_isInstance (T := "StopIteration") (b := true) ⟨o, ho, hc⟩ isSubtype_stop ?_)
    exact wpAny_pure (hQ _ fun c o c1 _ c3 _ e => hk c o c1 c3 e)
structure ZG (xs ys : Array Value) (lo : Addr) (h : Heap) (as : List Addr) : Prop where
  rise : as.Pairwise (· < ·)
  above : ∀ a ∈ as, lo < a
  there : ∀ a ∈ as, a < h.objs.size
  pairs : ∀ (j : Nat) (a : Addr), as[j]? = some a → ∃ x y, xs[j]? = some x ∧ ys[j]? = some y ∧ IsPair h a x y
end
section
variable {prog : Program} {w : World} {A : Around} {s : Shared} {R : Result → Shared → Prop} {xs ys : Array Value}
theorem zg_loop {S z TI TO i1 i2 l1 l2 : Addr} (hh : A.handled = none) (D : ZipApart z TI TO i1 i2 l1 l2) (nS : z ≠ S ∧ TI ≠ S ∧ TO ≠ S ∧ i1 ≠ S ∧ i2 ≠ S ∧ l1 ≠ S ∧ l2 ≠ S) (lz : TI < z ∧ TO < z ∧ i1 < z ∧ i2 < z) (hSz : z < S) (hl : xs.size = ys.size) (hn : xs.size ≤ sizeLine) (res : Value) {h₁ : Heap}
    (hR : ∀ h' tk acc c as, (∀ b o, b ≠ S → b ≠ z → b ≠ TO → b ≠ i1 → b ≠ i2 → h₁.get? b = some o → h'.get? b = some o) → h'.get? S = some { cls := .type "list", dict := none, data := .seq acc c, slots := #[] } → as.length = xs.size → ZG xs ys S h' as →
      acc.toList = as.map Value.ref → R (.ok (.ret res)) { s with heap := h', toks := tk }) :
    ∀ (k i : Nat) (h : Heap) (tk c : Nat) (acc : Array Value) (as : List Addr), xs.size - i = k → i ≤ xs.size → ZSt h z TI TO i1 i2 l1 l2 S i xs ys → (∀ b o, b ≠ S → b ≠ z → b ≠ TO → b ≠ i1 → b ≠ i2 → h₁.get? b = some o → h.get? b = some o) →
      h.get? S = some { cls := .type "list", dict := none, data := .seq acc c, slots := #[] } → acc.toList = as.map Value.ref → as.length = i → ZG xs ys S h as →
      codeAny (model prog w) A (.builtin "list.extend.loop" ⟨[.ref S, .ref z, res], []⟩) R { s with heap := h, toks := tk } := by
  have far : ∀ b, S < b → b ≠ z ∧ b ≠ TO ∧ b ≠ i1 ∧ b ≠ i2 := fun b hb => ⟨Nat.ne_of_gt (Nat.lt_trans hSz hb), Nat.ne_of_gt (Nat.lt_trans (Nat.lt_trans lz.2.1 hSz) hb), Nat.ne_of_gt (Nat.lt_trans (Nat.lt_trans lz.2.2.1 hSz) hb), Nat.ne_of_gt (Nat.lt_trans (Nat.lt_trans lz.2.2.2 hSz) hb)⟩
  intro k
  induction k with
  | zero =>
    intro i h tk c acc as hk hi hst hkeep hS hacc hal hG
    have hin : i = xs.size := by omega
    refine codeAny_builtin PySem.F.entry_extend_loop ?_
    rw [Around.under_plainId PySem.F.plain_extend_loop _]
    show wpAny _ A.in1 (pyNext (.ref z) >>= _) _ _ _
    refine wpAny_bind (zst_done (s := { s with heap := h, toks := tk }) (A := A.in1) hh D hst (by rw [hin]; simp) fun h' he => ?_)
    have hl : ∀ b, b ∈ as → b ≠ z ∧ b ≠ TO ∧ b ≠ i1 ∧ b ≠ i2 := fun b hb => far b (hG.above b hb)
    refine wpAny_pure (hR h' tk acc c as (fun b o h1 h2 h3 h4 h5 e => he b o h2 h3 h4 h5 (hkeep b o h1 h2 h3 h4 h5 e)) (he S _ (Ne.symm nS.1) (Ne.symm nS.2.2.1) (Ne.symm nS.2.2.2.1) (Ne.symm nS.2.2.2.2.1) hS) (by omega) ⟨hG.rise, hG.above, fun a ha => ?_, fun j a hj => ?_⟩ hacc)
    · obtain ⟨j, hj⟩ := List.mem_iff_getElem?.mp ha
      obtain ⟨x, y, e1, e2, e3⟩ := hG.pairs j a hj
      have := hl a ha
      exact Heap.lt_size (he a _ this.1 this.2.1 this.2.2.1 this.2.2.2 e3)
    · obtain ⟨x, y, e1, e2, e3⟩ := hG.pairs j a hj
      have := hl a (List.mem_of_getElem? hj)
      exact ⟨x, y, e1, e2, he a _ this.1 this.2.1 this.2.2.1 this.2.2.2 e3⟩
  | succ k ih =>
    intro i h tk c acc as hk hi hst hkeep hS hacc hal hG
    have hlt : i < xs.size := by omega
    have hsz : acc.size = i := by rw [← Array.length_toList, hacc, List.length_map, hal]
    refine codeAny_builtin PySem.F.entry_extend_loop ?_
    rw [Around.under_plainId PySem.F.plain_extend_loop _]
    show wpAny _ A.in1 (pyNext (.ref z) >>= _) _ _ _
    have hSl : S < h.objs.size := Heap.lt_size hS
    refine wpAny_bind (zst_item (s := { s with heap := h, toks := tk }) (S := S) D hst hSl (Array.getElem?_eq_getElem hlt) (Array.getElem?_eq_getElem (by omega)) fun h' hst' ht hz hkp => ?_)
    dsimp only at ht hz hkp ⊢
    have hS' := hkp S _ (Ne.symm nS.1) (Ne.symm nS.2.2.1) (Ne.symm nS.2.2.2.1) (Ne.symm nS.2.2.2.2.1) hS
    have up : ∀ b o, b ≠ S → h'.get? b = some o → (h'.update S (Obj.mapSeq (·.push (Value.ref h.objs.size)))).get? b = some o := fun b o hb e => (Heap.get?_update_other _ _ (Ne.symm hb)).trans e
    have hl := far
    show wpAny _ A.in1 (updateSeq S (·.push (Value.ref h.objs.size)) >>= _) _ _ _
    refine wpAny_bind ?_
    have pr : ∀ (j : Nat) (b : Addr), (as ++ [h.objs.size])[j]? = some b → ∃ x y, xs[j]? = some x ∧ ys[j]? = some y ∧ IsPair (h'.update S (Obj.mapSeq (·.push (Value.ref h.objs.size)))) b x y := by
      intro j b hj
      rcases Nat.lt_trichotomy j as.length with h1 | h1 | h1
      · rw [List.getElem?_append_left h1] at hj
        obtain ⟨x', y', e1, e2, e3⟩ := hG.pairs j b hj
        have hb := hG.above b (List.mem_of_getElem? hj)
        have nb := hl b hb
        exact ⟨x', y', e1, e2, up b _ (Nat.ne_of_gt hb) (hkp b _ nb.1 nb.2.1 nb.2.2.1 nb.2.2.2 e3)⟩
      · subst h1
        have hb : h.objs.size = b := by simpa using hj
        subst hb
        exact ⟨_, _, by rw [hal]; exact Array.getElem?_eq_getElem hlt, by rw [hal]; exact Array.getElem?_eq_getElem (by omega), up _ _ (Nat.ne_of_gt hSl) ht⟩
      · have hnone : (as ++ [h.objs.size])[j]? = none := List.getElem?_eq_none (by rw [List.length_append, List.length_singleton]; omega)
        rw [hnone] at hj; cases hj
    refine wpAny_updateSeq hS' rfl (wpAny_pure ⟨plainId_quiet PySem.F.plain_extend_loop _, ih (i + 1) _ tk _ (acc.push (Value.ref h.objs.size)) (as ++ [h.objs.size]) (by omega) hlt (hst'.keep up nS)
      (fun b o h1 h2 h3 h4 h5 e => up b o h1 (hkp b o h2 h3 h4 h5 (hkeep b o h1 h2 h3 h4 h5 e))) (Heap.get?_update_self _ hS' rfl) (by rw [Array.toList_push, hacc, List.map_append]; rfl) (by rw [List.length_append, hal]; rfl) ⟨List.pairwise_append.mpr ⟨hG.rise, List.pairwise_singleton _ _, fun a ha b hb => by rw [List.mem_singleton.mp hb]; exact hG.there a ha⟩, ?_, ?_, pr⟩⟩) (by rw [hsz]; omega) (by show (acc.push (Value.ref h.objs.size)).size ≤ sizeLine + 1; rw [Array.size_push, hsz]; omega)
    · intro a ha
      rcases List.mem_append.mp ha with ha | ha
      · exact hG.above a ha
      · rw [List.mem_singleton.mp ha]; exact hSl
    · intro a ha
      obtain ⟨j, hj⟩ := List.mem_iff_getElem?.mp ha
      obtain ⟨_, _, _, _, e⟩ := pr j a hj
      exact Heap.lt_size e
end
theorem zip_nolen : typeLookup (.type "zip") "__len__" = pure none := by rw [typeLookup_type, builtinLookup_eq_fast]; kernel_rfl
theorem zip_nohint : typeLookup (.type "zip") "__length_hint__" = pure none := by rw [typeLookup_type, builtinLookup_eq_fast]; kernel_rfl
section
variable {prog : Program} {w : World} {A : Around} {E : Value → Shared → Prop} {s : Shared} {xs ys : Array Value}
theorem zip_hint {z : Addr} (hT : s.TypeIs (.ref z) "zip") {Q : Bool → Shared → Prop} (h : Q true s) : wpAny (model prog w) A (Builtin.List.listLengthHint (.ref z)) Q E s := by
  unfold Builtin.List.listLengthHint
  refine wpAny_bind (wpAny_specialOf hT zip_nolen ?_)
  refine wpAny_ite_split (fun hab => absurd hab (by decide)) (fun _ => ?_)
  refine wpAny_ite_split (fun hab => absurd hab (by decide)) (fun _ => ?_)
  refine wpAny_bind (wpAny_specialOf hT zip_nohint ?_)
  exact wpAny_pure h
theorem zg_extend {R : Result → Shared → Prop} {S z TI TO i1 i2 l1 l2 : Addr} (hh : A.handled = none) (D : ZipApart z TI TO i1 i2 l1 l2) (nS : z ≠ S ∧ TI ≠ S ∧ TO ≠ S ∧ i1 ≠ S ∧ i2 ≠ S ∧ l1 ≠ S ∧ l2 ≠ S) (lz : TI < z ∧ TO < z ∧ i1 < z ∧ i2 < z) (hSz : z < S) (hl : xs.size = ys.size) (hn : xs.size ≤ sizeLine) (res : Value) (c₀ : Nat)
    (hz : IsZip s.heap z TI TO .none) (hTO : ∃ a b, IsPair s.heap TO a b) (ti : IsPair s.heap TI (.ref i1) (.ref i2)) (h1 : s.heap.IsListIter i1 l1 0) (h2 : s.heap.IsListIter i2 l2 0) (L1 : s.heap.IsList l1 xs) (L2 : s.heap.IsList l2 ys)
    (hS : s.heap.get? S = some { cls := .type "list", data := .seq #[] c₀ })
    (hR : ∀ h' tk acc c as, (∀ b o, b ≠ S → b ≠ z → b ≠ TO → b ≠ i1 → b ≠ i2 → s.heap.get? b = some o → h'.get? b = some o) → h'.get? S = some { cls := .type "list", dict := none, data := .seq acc c, slots := #[] } → as.length = xs.size → ZG xs ys S h' as →
      acc.toList = as.map Value.ref → R (.ok (.ret res)) { s with heap := h', toks := tk }) :
    wpAny (model prog w) A.in1 (Builtin.List.listExtendWith (.ref S) (.ref z) res)
      (fun fin s' => match fin with | .done f => R (.ok f) s' | .again c' => c'.quiet = true ∧ codeAny (model prog w) A c' R s') (fun e s' => R (.error e) s') s := by
  have hT : s.TypeIs (.ref z) "zip" := ⟨_, hz, rfl⟩
  have key : ∀ (h : Heap) (c₁ tk : Nat), (∀ b o, b ≠ S → s.heap.get? b = some o → h.get? b = some o) →
      h.get? S = some { cls := .type "list", data := .seq #[] c₁ } → codeAny (model prog w) A (.builtin "list.extend.loop" ⟨[.ref S, .ref z, res], []⟩) R { s with heap := h, toks := tk } := by
    intro h c₁ tk hk hS₁
    refine zg_loop (s := s) (h₁ := s.heap) hh D nS lz hSz hl hn res hR xs.size 0 h tk c₁ #[] [] (Nat.sub_zero _) (Nat.zero_le _) (ZSt.keep (h := s.heap) ⟨.inl ⟨rfl, hz, hTO⟩, ti, h1, h2, L1, L2⟩ hk nS) (fun b o hb _ _ _ _ e => hk b o hb e) hS₁ rfl rfl
      ⟨List.Pairwise.nil, (fun _ ha => nomatch ha), (fun _ ha => nomatch ha), (fun j a hj => by simp at hj)⟩
  unfold Builtin.List.listExtendWith
  refine wpAny_bind (wpAny_typeOf (T := "zip") hT ?_)
  have h1 : Builtin.List.listSameRef (.ref S) (.ref z) = false := by simp [Builtin.List.listSameRef, Ne.symm nS.1]
  have h2 : (Value.type "zip" == Value.type "list") = false := by decide
  have h3 : (Value.type "zip" == Value.type "tuple") = false := by decide
  simp only [h1, h2, h3, Bool.or_false, Bool.false_eq_true, if_false]
  refine wpAny_bind (wpAny_pyIter_zip hz ?_)
  refine wpAny_bind (wpAny_holding (zip_hint hT ?_))
  refine wpAny_ite_split (fun _ => ?_) (fun hab => (hab (Bool.true_or _)).elim)
  refine wpAny_bind (wpAny_rule ?_)
  refine wpAny_bind ?_
  show wpAny _ _ (updateSeq S (·.push .none) >>= fun _ => updateSeq S (·.pop)) _ _ _
  refine wpAny_bind (wpAny_updateSeq hS rfl ?_)
  have hS₂ := Heap.get?_update_self (Obj.mapSeq (·.push Value.none)) hS rfl
  refine wpAny_updateSeq (hz := by seq_fits) hS₂ rfl ?_
  have hS₃ := Heap.get?_update_self (Obj.mapSeq (·.pop)) hS₂ rfl
  refine wpAny_pure ⟨plainId_quiet PySem.F.plain_extend_loop _, key _ _ _ (fun b o hb e => ?_) hS₃⟩
  exact (Heap.get?_update_other _ _ (Ne.symm hb)).trans ((Heap.get?_update_other _ _ (Ne.symm hb)).trans e)
theorem zg_init {R : Result → Shared → Prop} {S z TI TO i1 i2 l1 l2 : Addr} (hh : A.handled = none) (D : ZipApart z TI TO i1 i2 l1 l2) (nS : z ≠ S ∧ TI ≠ S ∧ TO ≠ S ∧ i1 ≠ S ∧ i2 ≠ S ∧ l1 ≠ S ∧ l2 ≠ S) (lz : TI < z ∧ TO < z ∧ i1 < z ∧ i2 < z) (hSz : z < S) (hl : xs.size = ys.size) (hn : xs.size ≤ sizeLine)
    (hz : IsZip s.heap z TI TO .none) (hTO : ∃ a b, IsPair s.heap TO a b) (ti : IsPair s.heap TI (.ref i1) (.ref i2)) (h1 : s.heap.IsListIter i1 l1 0) (h2 : s.heap.IsListIter i2 l2 0) (L1 : s.heap.IsList l1 xs) (L2 : s.heap.IsList l2 ys)
    (hS : s.heap.get? S = some { cls := .type "list", data := .seq #[] })
    (hR : ∀ h' tk acc c as, (∀ b o, b ≠ S → b ≠ z → b ≠ TO → b ≠ i1 → b ≠ i2 → s.heap.get? b = some o → h'.get? b = some o) → h'.get? S = some { cls := .type "list", dict := none, data := .seq acc c, slots := #[] } → as.length = xs.size → ZG xs ys S h' as →
      acc.toList = as.map Value.ref → R (.ok (.ret .none)) { s with heap := h', toks := tk }) :
    wpAny (model prog w) A.in1 (Builtin.«list.__init__» ⟨[.ref S, .ref z], []⟩)
      (fun fin s' => match fin with | .done f => R (.ok f) s' | .again c' => c'.quiet = true ∧ codeAny (model prog w) A c' R s') (fun e s' => R (.error e) s') s := by
  show wpAny _ _ (do let old ← Builtin.List.listItems (.ref S); Builtin.List.listUpdate (.ref S) (fun _ => #[]); letGo old.toList.reverse; Builtin.List.listExtendWith (.ref S) (.ref z) .none) _ _ s
  refine wpAny_bind ?_
  unfold Builtin.List.listItems
  refine wpAny_bind (wpAny_seqItems hS rfl (wpAny_pure ?_))
  show wpAny _ _ (updateSeq S (fun _ => #[]) >>= fun _ => letGo (#[] : Array Value).toList.reverse >>= fun _ => Builtin.List.listExtendWith (.ref S) (.ref z) .none) _ _ s
  refine wpAny_bind (wpAny_updateSeq hS rfl ?_)
  have hS₂ := Heap.get?_update_self (Obj.mapSeq (fun _ => (#[] : Array Value))) hS rfl
  have oth : ∀ b o, b ≠ S → s.heap.get? b = some o → (s.heap.update S (Obj.mapSeq (fun _ => (#[] : Array Value)))).get? b = some o :=
    fun b o hb e => (Heap.get?_update_other _ _ (Ne.symm hb)).trans e
  refine wpAny_bind (wpAny_letGo ?_)
  obtain ⟨a, b, hp⟩ := hTO
  exact zg_extend hh D nS lz hSz hl hn .none _ (oth _ _ nS.1 hz) ⟨a, b, oth _ _ nS.2.2.1 hp⟩ (oth _ _ nS.2.1 ti) (h1.at fun o e => oth _ o nS.2.2.2.1 e) (h2.at fun o e => oth _ o nS.2.2.2.2.1 e) (L1.at fun o e => oth _ o nS.2.2.2.2.2.1 e) (L2.at fun o e => oth _ o nS.2.2.2.2.2.2 e) hS₂
    fun h' tk acc c as hk hS' hl hG hacc => hR h' tk acc c as (fun b o c0 c1 c2 c3 c4 e => hk b o c0 c1 c2 c3 c4 (oth b o c0 e)) hS' hl hG hacc
theorem zg_call {z TI TO i1 i2 l1 l2 : Addr} {Q : Value → Shared → Prop} (hh : A.handled = none) (D : ZipApart z TI TO i1 i2 l1 l2) (lz : TI < z ∧ TO < z ∧ i1 < z ∧ i2 < z) (hl : xs.size = ys.size) (hn : xs.size ≤ sizeLine)
    (hz : IsZip s.heap z TI TO .none) (hTO : ∃ a b, IsPair s.heap TO a b) (ti : IsPair s.heap TI (.ref i1) (.ref i2)) (h1 : s.heap.IsListIter i1 l1 0) (h2 : s.heap.IsListIter i2 l2 0) (L1 : s.heap.IsList l1 xs) (L2 : s.heap.IsList l2 ys)
    (hQ : ∀ h' tk acc c as, (∀ b o, b ≠ z → b ≠ TO → b ≠ i1 → b ≠ i2 → s.heap.get? b = some o → h'.get? b = some o) → h'.get? s.heap.objs.size = some { cls := .type "list", dict := none, data := .seq acc c, slots := #[] } → as.length = xs.size → ZG xs ys s.heap.objs.size h' as →
      acc.toList = as.map Value.ref → Q (.ref s.heap.objs.size) { s with heap := h', toks := tk }) :
    wpAny (model prog w) A (call (.type "list") [.ref z]) Q E s := by
  refine callType_codes (Q₁ := fun obj s₁ => obj = .ref s.heap.objs.size ∧ s₁ = { s with heap := s.heap.push { cls := .type "list", data := .seq #[] } }) PySem.F.called_list (PySem.F.typeCall_list_1 _) PySem.F.entry_list_init
    (code_list_new _ ⟨rfl, rfl⟩) fun obj s₁ h₁ => ?_
  obtain ⟨rfl, rfl⟩ := h₁
  have hS : (s.heap.push { cls := .type "list", data := .seq #[] }).get? s.heap.objs.size = some { cls := .type "list", data := .seq #[] } := Heap.get?_push_size _ rfl
  have up : ∀ b o, s.heap.get? b = some o → (s.heap.push { cls := .type "list", data := .seq #[] }).get? b = some o := fun b o e => Heap.get?_push_of_some _ e
  obtain ⟨a, b, hp⟩ := hTO
  have lt : ∀ {b o}, s.heap.get? b = some o → b ≠ s.heap.objs.size := fun e => Nat.ne_of_lt (Heap.lt_size e)
  have nS : z ≠ s.heap.objs.size ∧ TI ≠ s.heap.objs.size ∧ TO ≠ s.heap.objs.size ∧ i1 ≠ s.heap.objs.size ∧ i2 ≠ s.heap.objs.size ∧ l1 ≠ s.heap.objs.size ∧ l2 ≠ s.heap.objs.size :=
    ⟨lt hz, lt ti, lt hp, (let ⟨_, e, _⟩ := h1; lt e), (let ⟨_, e, _⟩ := h2; lt e), (let ⟨_, e, _⟩ := L1; lt e), (let ⟨_, e, _⟩ := L2; lt e)⟩
  refine ⟨⟨_, hS, rfl⟩, PySem.F.args_list_init_2 _ _, zg_init (A := A.in1) hh D nS lz (Heap.lt_size hz) hl hn (up _ _ hz) ⟨a, b, up _ _ hp⟩ (up _ _ ti) (h1.at fun o e => up _ o e) (h2.at fun o e => up _ o e) (L1.at fun o e => up _ o e) (L2.at fun o e => up _ o e) hS fun h' tk acc c as hk hS' hl hG hacc => ?_⟩
  exact ⟨rfl, hQ h' tk acc c as (fun b o c1 c2 c3 c4 e => hk b o (lt e) c1 c2 c3 c4 (up _ _ e)) hS' hl hG hacc⟩
end
section
variable {X : Cx} {pins : List (Addr × Obj)} {σ : St} {H : Hp} {s : Shared}
theorem Inv.many {H' : Hp} {h' : Heap} {t' : Nat} (I : Inv X pins σ H s) (k : ∀ b u, s.heap.get? b = some u → h'.get? b = some u) (same : Same H H') (new : ∀ b, b < s.heap.objs.size → H b = none → H' b = none) (ok : ∀ b u, H b = none → H' b = some u → ObjOk X.prog X.w H' h' b u) : Inv X pins σ H' { s with heap := h', toks := t' } := by
  refine I.un ⟨fun b u q _ _ _ => k b u q, fun b u q _ _ _ => ⟨u.slots, k b u q⟩, fun b u q n _ => new b (Heap.lt_size q) n, fun b u q _ => ⟨u, k b u q⟩, fun b xs q => same _ _ q, fun b u xs q => same _ _ q, fun b ps q => ⟨#[], by rw [same _ _ q]; simp⟩⟩ fun b u e => ?_
  cases hb : H b with
  | none => exact ok b u hb e
  | some u' =>
    have := same _ _ hb
    rw [this] at e
    cases e
    exact (I.hok b _ hb).stay (fun c v _ q => k c v q) (fun c q => same _ _ q) fun c xs q => same _ _ q
inductive rLZ (x y : V) (H : Hp) (Q : VK) : Prop
  | mk (a b : Addr) (xs ys : List V) (x0 : x = .ref a) (x1 : y = .ref b) (ha : H a = some (.lst xs)) (hb : H b = some (.lst ys)) (l : xs.length = ys.length)
      (q : ∀ (p : Addr) (ts : List Addr) (H' : Hp), Same H H' → H p = none → H' p = some (.lst (ts.map V.ref)) → ts.length = xs.length → (∀ (j : Nat) t x y, ts[j]? = some t → xs[j]? = some x → ys[j]? = some y → H' t = some (.tup [x, y])) → Q (.ref p) H') : rLZ x y H Q
def tLZ (t1 t2 : TE) : TE := fun σ H Q => t1 σ H fun x H1 => t2 σ H1 fun y H2 => rLZ x y H2 Q
theorem lookup_zip {κ : Type} : ∀ {as : List Addr} {ws : List κ}, as.Pairwise (· < ·) → ∀ {j : Nat} {t : Addr} {w : κ}, as[j]? = some t → ws[j]? = some w → (as.zip ws).lookup t = some w
  | [], _, _, j, t, w, h, _ => by simp at h
  | a :: as, [], _, j, t, w, _, h => by simp at h
  | a :: as, v :: ws, p, 0, t, w, h1, h2 => by
    simp at h1 h2
    subst h1 h2
    simp
  | a :: as, v :: ws, p, j + 1, t, w, h1, h2 => by
    obtain ⟨p1, p2⟩ := List.pairwise_cons.mp p
    have h1' : as[j]? = some t := by simpa using h1
    have ne : t ≠ a := Nat.ne_of_gt (p1 t (List.mem_of_getElem? h1'))
    have nb : (t == a) = false := by simpa using ne
    rw [List.zip_cons_cons, List.lookup_cons, nb]
    exact lookup_zip p2 h1' (by simpa using h2)
theorem lookup_out {κ : Type} : ∀ {as : List Addr} {ws : List κ} {t : Addr} {w : κ}, (as.zip ws).lookup t = some w → ∃ j : Nat, as[j]? = some t ∧ ws[j]? = some w
  | [], _, t, w, h => by simp at h
  | a :: as, [], t, w, h => by simp at h
  | a :: as, v :: ws, t, w, h => by
    rw [List.zip_cons_cons, List.lookup_cons] at h
    by_cases e : t = a
    · subst e
      simp at h
      exact ⟨0, by simp, by simp [h]⟩
    · have nb : (t == a) = false := by simpa using e
      rw [nb] at h
      obtain ⟨j, j1, j2⟩ := lookup_out h
      exact ⟨j + 1, by simpa using j1, by simpa using j2⟩
def zipQ (Q : VK) : List V → Hp → Prop
  | [x, y], H => rLZ x y H Q
  | _, _ => False
theorem pe_list_zip {e1 e2 : Expr} {p p2 pos pos2 : Pos} {t1 t2 : TE} (hc : X.calm = true) (hg : Gl X "list") (hm : X.mg "list" = none) (hg2 : Gl X "zip") (hm2 : X.mg "zip" = none) (h1 : PE X e1 t1) (h2 : PE X e2 t2)
    (hv : bootBuiltins "list" = some (.type "list") := by decide +kernel) (hv2 : bootBuiltins "zip" = some (.type "zip") := by decide +kernel)
    (he : starEach [.Call (.Name "zip" p2) [e1, e2] [] pos2] X.env = (false, eval (.Call (.Name "zip" p2) [e1, e2] [] pos2) X.env) :: starEach [] X.env := by rfl) (hpl : (backTo pos (starEach [] X.env)).any (·.1) = false := by rfl)
    (he2 : starEach [e1, e2] X.env = (false, eval e1 X.env) :: starEach [e2] X.env := by rfl) (hpl2 : (backTo pos2 (starEach [e2] X.env)).any (·.1) = false := by rfl) (he3 : starEach [e2] X.env = (false, eval e2 X.env) :: starEach [] X.env := by rfl) :
    PE X (.Call (.Name "list" p) [.Call (.Name "zip" p2) [e1, e2] [] pos2] [] pos) (tLZ t1 t2) := by
  intro pins s σ H Q I h
  refine wpAny_Call_Name_kw (ld_blt I hg hm hv ?_ (by decide) (by decide))
  refine PyProof.Rows.callWith_type1 ?_ he hpl
  rw [he]
  show wpAny _ _ (spliced ((false, eval (.Call (.Name "zip" p2) [e1, e2] [] pos2) X.env) :: backTo pos (starEach [] X.env))) _ _ s
  refine Calls.spliced_cons ?_
  refine wpAny_Call_Name_kw (ld_blt I hg2 hm2 hv2 ?_ (by decide) (by decide))
  refine PyProof.Rows.callWith_type1 (thn ((pa_cons h1 (pa_cons h2 pa_nil he3) he2) pos2 pins s σ H (zipQ Q) I h) fun us s1 zq => zq.elim fun vs H1 I1 r1 q1 => ?_) he2 hpl2
  obtain ⟨x, y, rfl⟩ : ∃ x y, vs = [x, y] := by
    rcases vs with _ | ⟨x, _ | ⟨y, _ | ⟨z, r⟩⟩⟩
    · exact q1.elim
    · exact q1.elim
    · exact ⟨x, y, rfl⟩
    · exact q1.elim
  obtain ⟨a, b, xs, ys, rfl, rfl, ha, hb, hl, q⟩ := (show rLZ x y H1 Q from q1)
  obtain ⟨u, v, rfl, ru, rv⟩ := vals2 r1
  cases ru
  cases rv
  obtain ⟨its, r, pl, hz⟩ := I1.list (SqL.of ha)
  obtain ⟨its2, r', pl', hz'⟩ := I1.list (SqL.of hb)
  have e1 : its.toArray.size = xs.length := by rw [List.size_toArray]; exact r.length.symm
  have e2 : its2.toArray.size = ys.length := by rw [List.size_toArray]; exact r'.length.symm
  have alt : a < s1.heap.objs.size := (let ⟨_, e, _⟩ := pl.isList; Heap.lt_size e)
  have blt : b < s1.heap.objs.size := (let ⟨_, e, _⟩ := pl'.isList; Heap.lt_size e)
  refine call_zip_2 pl.isList pl'.isList fun h5 z1 z2 z3 z4 z5 z6 k5 => ?_
  refine Calls.spliced_nil ?_
  have lz : s1.heap.objs.size + 2 < s1.heap.objs.size + 4 ∧ s1.heap.objs.size + 3 < s1.heap.objs.size + 4 ∧ s1.heap.objs.size < s1.heap.objs.size + 4 ∧ s1.heap.objs.size + 1 < s1.heap.objs.size + 4 := by
    generalize s1.heap.objs.size = n
    exact ⟨by omega, by omega, by omega, by omega⟩
  refine zg_call (s := { s1 with heap := h5 }) (xs := its.toArray) (ys := its2.toArray) (I.ok.hd hc) (zipApart_new alt blt) lz (by rw [e1, e2, hl]) (by rw [e1]; exact hz) z1 ⟨_, _, z3⟩ z2 z4 z5 (pl.isList.at fun o e => k5 _ o e) (pl'.isList.at fun o e => k5 _ o e) fun h' tk acc c as kp hS las G hacc => ?_
  have hS5 : h5.objs.size = s1.heap.objs.size + 5 := z6
  have kk : ∀ b o, s1.heap.get? b = some o → h'.get? b = some o := fun b o e => by
    have lb : b < s1.heap.objs.size := Heap.lt_size e
    exact kp b o (Nat.ne_of_lt (Nat.lt_of_lt_of_le lb (Nat.le_add_right _ _))) (Nat.ne_of_lt (Nat.lt_of_lt_of_le lb (Nat.le_add_right _ _))) (Nat.ne_of_lt lb) (Nat.ne_of_lt (Nat.lt_of_lt_of_le lb (Nat.le_add_right _ _))) (k5 b o e)
  have hlen : as.length = xs.length := by rw [las, e1]
  have far : ∀ t ∈ as, s1.heap.objs.size ≤ t := fun t ht => by
    have := G.above t ht
    have : h5.objs.size < t := this
    rw [hS5] at this
    exact Nat.le_of_lt (Nat.lt_of_le_of_lt (Nat.le_add_right _ _) this)
  have Sf : s1.heap.objs.size ≤ h5.objs.size := by rw [hS5]; exact Nat.le_add_right _ _
  obtain ⟨H', hH'⟩ : ∃ H' : Hp, H' = fun c => if c = h5.objs.size then some (.lst (as.map V.ref)) else match (as.zip (xs.zip ys)).lookup c with | some w => some (.tup [w.1, w.2]) | none => H1 c := ⟨_, rfl⟩
  have H'S : H' h5.objs.size = some (.lst (as.map V.ref)) := by rw [hH']; simp
  have old : ∀ c, c < s1.heap.objs.size → H' c = H1 c := fun c hc => by
    have n1 : c ≠ h5.objs.size := Nat.ne_of_lt (Nat.lt_of_lt_of_le hc Sf)
    have n2 : (as.zip (xs.zip ys)).lookup c = none := by
      cases hh : (as.zip (xs.zip ys)).lookup c with
      | none => rfl
      | some w =>
        obtain ⟨j, j1, _⟩ := lookup_out hh
        exact absurd hc (Nat.not_lt.mpr (far c (List.mem_of_getElem? j1)))
    rw [hH']
    simp only [if_neg n1, n2]
  have same : Same H1 H' := fun c o e => by
    have lc : c < s1.heap.objs.size := by
      rcases Nat.lt_or_ge c s1.heap.objs.size with z | z
      · exact z
      · rw [I1.hok.fresh z] at e; cases e
    rw [old c lc]; exact e
  have tupAt : ∀ (j : Nat) t x y, as[j]? = some t → xs[j]? = some x → ys[j]? = some y → H' t = some (.tup [x, y]) := fun j t x y ht hx hy => by
    have n1 : t ≠ h5.objs.size := Nat.ne_of_gt (G.above t (List.mem_of_getElem? ht))
    have hw : (xs.zip ys)[j]? = some (x, y) := by rw [List.getElem?_zip_eq_some]; exact ⟨hx, hy⟩
    rw [hH']
    simp only [if_neg n1, lookup_zip G.rise ht hw]
  have I' : Inv X pins σ H' { s1 with heap := h', toks := tk } := by
    refine I1.many kk same (fun c hc n => by rw [old c hc]; exact n) fun c u hn hu => ?_
    by_cases hcS : c = h5.objs.size
    · subst hcS
      rw [H'S] at hu
      cases hu
      refine ⟨by rw [List.length_map, hlen]; exact hz, acc.toList, c, ?_, ?_⟩
      · rw [hacc]
        have gen : ∀ l : List Addr, Vals (l.map V.ref) (l.map Value.ref) := fun l => by
          induction l with
          | nil => exact .nil
          | cons t l ih => exact .cons rfl ih
        exact gen as
      · exact hS
    · have hu' := hu
      rw [hH'] at hu
      simp only [if_neg hcS] at hu
      cases hh : (as.zip (xs.zip ys)).lookup c with
      | none => rw [hh] at hu; rw [hn] at hu; cases hu
      | some w =>
        rw [hh] at hu
        cases hu
        obtain ⟨j, j1, j2⟩ := lookup_out hh
        obtain ⟨x, y⟩ := w
        rw [List.getElem?_zip_eq_some] at j2
        obtain ⟨u1, v1, g1, g2, g3⟩ := G.pairs j c j1
        obtain ⟨ux, k1, rx⟩ := r.get j2.1
        obtain ⟨uy, k2, ry⟩ := r'.get j2.2
        have a1 : u1 = ux := by simpa [k1] using g1.symm
        have a2 : v1 = uy := by simpa [k2] using g2.symm
        subst a1 a2
        exact ⟨two_line, [u1, v1], .cons rx (.cons ry .nil), _, g3, rfl, _, rfl⟩
  exact ⟨.ref h5.objs.size, H', I', rfl, q h5.objs.size as H' same (I1.hok.fresh Sf) H'S hlen tupAt⟩
end
end L2

set_option Elab.async false
set_option linter.all false
set_option maxRecDepth 100000
set_option maxHeartbeats 4000000
namespace L2
open PySem PySem.Spec PyProof.Rows
theorem int_eq_declines_dict (b : Int) (u : Tok) (l : Addr) (c : Value) (es : Array DictEntry) (n : Nat) (dd : Option Addr) (sl : Array (Option Value)) :
    Meets (Builtin.«int.__eq__» ⟨[.int b u, .ref l], []⟩) (fun _ R s => s.heap.get? l = some { cls := c, dict := dd, data := .dict es n, slots := sl } ∧ R (.ok (.ret .notImplemented)) s) :=
  .of_wp fun prog w A R s h => by obtain ⟨hp, g, d, tk, os⟩ := s; obtain ⟨hl, h⟩ := h; wp_walk using wpAny_loadPart' hl, wpAny_load hl; exact ⟨_, rfl, h⟩
theorem str_eq_declines_dict (b : Str) (u : Tok) (l : Addr) (c : Value) (es : Array DictEntry) (n : Nat) (dd : Option Addr) (sl : Array (Option Value)) :
    Meets (Builtin.«str.__eq__» ⟨[.str b u, .ref l], []⟩) (fun _ R s => s.heap.get? l = some { cls := c, dict := dd, data := .dict es n, slots := sl } ∧ R (.ok (.ret .notImplemented)) s) :=
  .of_wp fun prog w A R s h => by obtain ⟨hp, g, d, tk, os⟩ := s; obtain ⟨hl, h⟩ := h; wp_walk using wpAny_loadPart' hl, wpAny_load hl; exact ⟨_, rfl, h⟩
section
variable {prog : Program} {w : World} {A : Around} {E : Value → Shared → Prop} {s : Shared}
theorem dict_eq_declines {d : Addr} {v : Value} {T : String} {Q : Value → Shared → Prop} (hd : s.TypeIs (.ref d) "dict") (hv : s.TypeIs v T) (hsub : isSubtype (.type T) (.type "dict") = pure false) (h : Q .notImplemented s) :
    wpAny (model prog w) A (call (.builtin "dict.__eq__") [.ref d, v]) Q E s := by
  refine wpAny_call_entry PySem.F.slot_dict_eq hd PySem.F.entry_dict_eq ?_ (PySem.F.args_dict_eq_2 _ _)
  show wpAny _ _ (Builtin.Dict.dictSlotArgs "__eq__" ⟨[.ref d, v], []⟩ >>= _) _ _ s
  refine wpAny_bind ?_
  unfold Builtin.Dict.dictSlotArgs
  refine wpAny_bind (wpAny_notOrdered_dict hd ?_)
  show wpAny _ _ (pure (Value.ref d, v)) _ _ s
  refine wpAny_pure ?_
  refine wpAny_bind (wpAny_isInstance (T := T) (b := false) hv hsub ?_)
  simp only [Bool.not_false, if_true]
  exact wpAny_bind (wpAny_rule (wpAny_pure ⟨_, rfl, h⟩))
theorem list_eq_declines_dict (l b : Addr) (items : Array Value) (es : Array DictEntry) (n n2 : Nat) (dd dd2 : Option Addr) (sl sl2 : Array (Option Value)) :
    Meets (Builtin.«list.__eq__» ⟨[.ref l, .ref b], []⟩) (fun _ R s => s.heap.get? l = some { cls := .type "list", dict := dd, data := .seq items n, slots := sl } ∧ s.heap.get? b = some { cls := .type "dict", dict := dd2, data := .dict es n2, slots := sl2 } ∧ R (.ok (.ret .notImplemented)) s) :=
  .of_wp fun prog w A R s h => by obtain ⟨hp, g, d, tk, os⟩ := s; obtain ⟨hl, hb, h⟩ := h; have f1 := F.sub_dict_list; wp_walk using wpAny_loadPart' hl, wpAny_loadPart' hb; exact ⟨_, rfl, h⟩
structure IsDct (h : Heap) (b : Addr) (dd : Option Addr) (es : Array DictEntry) (n : Nat) (sl : Array (Option Value)) : Prop where
  ho : h.get? b = some { cls := .type "dict", dict := dd, data := .dict es n, slots := sl }
theorem rc_int_dict {b : Addr} {dd : Option Addr} {es : Array DictEntry} {n : Nat} {sl : Array (Option Value)} (i : Int) (u : Tok) (hb : IsDct s.heap b dd es n sl) (hu : A.units < cLine) : SeqAt.RcAt A s (.int i u) (.ref b) false := fun prog w E Q h =>
  SeqAt.rc_eq_decline_or (k := false) (typeIs_int s i u) ⟨_, hb.ho, rfl⟩ (by decide) F.sub_dict_int F.slot_int_eq F.slot_dict_eq_refl
    (fun _ hq => call_meets F.slot_int_eq (typeIs_int s i u) F.entry_int_eq (F.args_int_eq_2 _ _) (int_eq_declines_dict i u b (.type "dict") es n dd sl) ⟨hb.ho, hq⟩)
    (fun _ hq => dict_eq_declines ⟨_, hb.ho, rfl⟩ (typeIs_int s i u) F.sub_int_dict hq)
    (fun _ hq => wpAny_of_eq (rfl : isSame (.int i u) (.ref b) = pure false) hq) (.inr hu) h
theorem rc_dict_int {b : Addr} {dd : Option Addr} {es : Array DictEntry} {n : Nat} {sl : Array (Option Value)} (i : Int) (u : Tok) (hb : IsDct s.heap b dd es n sl) (hu : A.units < cLine) : SeqAt.RcAt A s (.ref b) (.int i u) false := fun prog w E Q h =>
  SeqAt.rc_eq_decline_or (k := false) ⟨_, hb.ho, rfl⟩ (typeIs_int s i u) (by decide) F.sub_int_dict F.slot_dict_eq F.slot_int_eq_refl
    (fun _ hq => dict_eq_declines ⟨_, hb.ho, rfl⟩ (typeIs_int s i u) F.sub_int_dict hq)
    (fun _ hq => call_meets F.slot_int_eq_refl (typeIs_int s i u) F.entry_int_eq (F.args_int_eq_2 _ _) (int_eq_declines_dict i u b (.type "dict") es n dd sl) ⟨hb.ho, hq⟩)
    (fun _ hq => wpAny_of_eq (rfl : isSame (.ref b) (.int i u) = pure false) hq) (.inr hu) h
theorem rc_str_dict {b : Addr} {dd : Option Addr} {es : Array DictEntry} {n : Nat} {sl : Array (Option Value)} (x : Str) (u : Tok) (hb : IsDct s.heap b dd es n sl) (hu : A.units < cLine) : SeqAt.RcAt A s (.str x u) (.ref b) false := fun prog w E Q h =>
  SeqAt.rc_eq_decline_or (k := false) (typeIs_str s x u) ⟨_, hb.ho, rfl⟩ (by decide) F.sub_dict_str F.slot_str_eq F.slot_dict_eq_refl
    (fun _ hq => call_meets F.slot_str_eq (typeIs_str s x u) F.entry_str_eq (F.args_str_eq_2 _ _) (str_eq_declines_dict x u b (.type "dict") es n dd sl) ⟨hb.ho, hq⟩)
    (fun _ hq => dict_eq_declines ⟨_, hb.ho, rfl⟩ (typeIs_str s x u) F.sub_str_dict hq)
    (fun _ hq => wpAny_of_eq (rfl : isSame (.str x u) (.ref b) = pure false) hq) (.inr hu) h
theorem rc_dict_str {b : Addr} {dd : Option Addr} {es : Array DictEntry} {n : Nat} {sl : Array (Option Value)} (x : Str) (u : Tok) (hb : IsDct s.heap b dd es n sl) (hu : A.units < cLine) : SeqAt.RcAt A s (.ref b) (.str x u) false := fun prog w E Q h =>
  SeqAt.rc_eq_decline_or (k := false) ⟨_, hb.ho, rfl⟩ (typeIs_str s x u) (by decide) F.sub_str_dict F.slot_dict_eq F.slot_str_eq_refl
    (fun _ hq => dict_eq_declines ⟨_, hb.ho, rfl⟩ (typeIs_str s x u) F.sub_str_dict hq)
    (fun _ hq => call_meets F.slot_str_eq_refl (typeIs_str s x u) F.entry_str_eq (F.args_str_eq_2 _ _) (str_eq_declines_dict x u b (.type "dict") es n dd sl) ⟨hb.ho, hq⟩)
    (fun _ hq => wpAny_of_eq (rfl : isSame (.ref b) (.str x u) = pure false) hq) (.inr hu) h
theorem ne_ld {l b : Addr} {items : Array Value} {dd : Option Addr} {es : Array DictEntry} {n : Nat} {sl : Array (Option Value)} {h : Heap} (hl : h.IsList l items) (hb : IsDct h b dd es n sl) : l ≠ b := fun e => by
  subst e
  obtain ⟨o, ho, hc, _⟩ := hl
  rw [hb.ho] at ho
  cases ho
  exact absurd hc (by simp)
theorem rc_list_dict {l b : Addr} {items : Array Value} {dd : Option Addr} {es : Array DictEntry} {n : Nat} {sl : Array (Option Value)} (hl : s.heap.IsList l items) (hb : IsDct s.heap b dd es n sl) (hu : A.units < cLine) : SeqAt.RcAt A s (.ref l) (.ref b) false := fun prog w E Q h => by
  have hne := ne_ld hl hb
  obtain ⟨⟨cls, dd', data, sl'⟩, ho, hc, n', hd⟩ := id hl
  simp only at hc hd
  subst hc hd
  exact (SeqAt.rc_eq_decline_or (k := false) ⟨_, ho, rfl⟩ ⟨_, hb.ho, rfl⟩ (by decide) F.sub_dict_list F.slot_list_eq F.slot_dict_eq_refl
    (fun _ hq => call_meets F.slot_list_eq ⟨_, ho, rfl⟩ F.entry_list_eq (F.args_list_eq_2 _ _) (list_eq_declines_dict l b items es n' n dd' dd sl' sl) ⟨ho, hb.ho, hq⟩)
    (fun _ hq => dict_eq_declines ⟨_, hb.ho, rfl⟩ ⟨_, ho, rfl⟩ F.sub_list_dict hq)
    (fun _ hq => SeqAt.wpAny_isSame_ref_other' hne ho hb.ho (by simp) hq) (.inr hu) h)
theorem rc_dict_list {l b : Addr} {items : Array Value} {dd : Option Addr} {es : Array DictEntry} {n : Nat} {sl : Array (Option Value)} (hl : s.heap.IsList l items) (hb : IsDct s.heap b dd es n sl) (hu : A.units < cLine) : SeqAt.RcAt A s (.ref b) (.ref l) false := fun prog w E Q h => by
  have hne := ne_ld hl hb
  obtain ⟨⟨cls, dd', data, sl'⟩, ho, hc, n', hd⟩ := id hl
  simp only at hc hd
  subst hc hd
  exact (SeqAt.rc_eq_decline_or (k := false) ⟨_, hb.ho, rfl⟩ ⟨_, ho, rfl⟩ (by decide) F.sub_list_dict F.slot_dict_eq F.slot_list_eq_refl
    (fun _ hq => dict_eq_declines ⟨_, hb.ho, rfl⟩ ⟨_, ho, rfl⟩ F.sub_list_dict hq)
    (fun _ hq => call_meets F.slot_list_eq_refl ⟨_, ho, rfl⟩ F.entry_list_eq (F.args_list_eq_2 _ _) (list_eq_declines_dict l b items es n' n dd' dd sl' sl) ⟨ho, hb.ho, hq⟩)
    (fun _ hq => SeqAt.wpAny_isSame_ref_other' hne.symm hb.ho ho (by simp) hq) (.inr hu) h)
end
end L2

set_option Elab.async false
set_option linter.all false
set_option maxRecDepth 100000
set_option maxHeartbeats 4000000
namespace L2
open PySem PySem.Spec PyProof.Rows
open PySem.AutoSeq1 (wpAny_loadPart')
open PySem.MeetsSeq3
section
variable {prog : Program} {w : World} {A : Around} {s : Shared}
def EqT (prog : Program) (w : World) (A : Around) (s : Shared) (u v : Value) : Prop := ∀ (E : Value → Shared → Prop) (Q : Bool → Shared → Prop), Q true s → wpAny (model prog w) A (eqBool u v) Q E s
def RcT (prog : Program) (w : World) (A : Around) (s : Shared) (u v : Value) : Prop := ∀ (E : Value → Shared → Prop) (Q : Value → Shared → Prop), Q (.bool true) s → wpAny (model prog w) A (richCompare .Eq u v) Q E s
theorem EqT.of {u v : Value} (h : SeqAt.EqAt A s u v true) : EqT prog w A s u v := fun E Q hq => h prog w E Q hq
theorem EqT.refs {l b : Addr} (h : l ≠ b → RcT prog w A s (.ref l) (.ref b)) : EqT prog w A s (.ref l) (.ref b) := fun E Q hq => by
  by_cases e : l = b
  · subst e
    exact SeqAt.EqAt.same _ prog w E Q hq
  · unfold eqBool
    refine wpAny_holding ?_
    refine wpAny_ite_split (fun hab => absurd (by have := eq_of_beq hab; injection this) e) (fun _ => ?_)
    exact wpAny_bind (h e E _ (wpAny_truthy_bool hq))
theorem call_one {E : Value → Shared → Prop} {T : String} {name : Str} {id : String} {B : Builtin} {self : Value} {rest : List Value} {Q : Value → Shared → Prop} (slot : Slot T name id) (hT : s.TypeIs self T) (entry : entryFor table id = some B) (args : argsOk id ⟨self :: rest, []⟩)
    (g : wpAny (model prog w) A.in1 (B ⟨self :: rest, []⟩) (fun fin s' => match fin with | .done f => wants Q E (.ok f) s' | .again c' => c'.quiet = true ∧ codeAny (model prog w) A c' (wants Q E) s') (fun e s' => wants Q E (.error e) s') s) :
    wpAny (model prog w) A (call (.builtin id) (self :: rest)) Q E s := wpAny_call (codeAny_call_builtin slot.plain entry (slot.check _ _ _ _ _ _ _ _ hT args g))
theorem eqt_loop {l b : Addr} {items items2 : Array Value} {n n2 : Nat} {dd dd2 : Option Addr} {sl sl2 : Array (Option Value)} (hsz : items.size = items2.size) (hl : s.heap.get? l = some { cls := .type "list", dict := dd, data := .seq items n, slots := sl })
    (hb : s.heap.get? b = some { cls := .type "list", dict := dd2, data := .seq items2 n2, slots := sl2 }) (he : ∀ j (h1 : j < items.size) (h2 : j < items2.size), EqT prog w A.in1 s items[j] items2[j]) {R : Result → Shared → Prop} (hR : R (.ok (.ret (.bool true))) s) :
    ∀ k i : Nat, items.size - i = k → i ≤ items.size → codeAny (model prog w) A (.builtin "list.__eq__.loop" ⟨[.ref l, .ref b, rawInt i, rawInt 2], []⟩) R s := by
  obtain ⟨hp, g, d, tk, os⟩ := s
  intro k
  induction k with
  | zero =>
    intro i hk hi
    have hin : i = items.size := by omega
    refine codeAny_builtin entry_eq_loop ?_
    rw [Around.under_plainId plain_eq_loop _]
    wp_walk using wpAny_loadPart' hl, wpAny_loadPart' hb
    have hi1 : items[((i : Nat) : Int).toNat]? = none := by simp; omega
    have hi2 : items2[((i : Nat) : Int).toNat]? = none := by simp; omega
    rw [hi1, hi2]
    wp_walk using wpAny_loadPart' hl, wpAny_loadPart' hb
    show R (.ok (.ret (.bool (items.size == items2.size)))) _
    rw [hsz]
    simpa using hR
  | succ k ih =>
    intro i hk hi
    refine codeAny_builtin entry_eq_loop ?_
    rw [Around.under_plainId plain_eq_loop _]
    wp_walk using wpAny_loadPart' hl, wpAny_loadPart' hb
    have hlt : i < items.size := by omega
    have hlt2 : i < items2.size := by omega
    have hi1 : items[((i : Nat) : Int).toNat]? = some items[i] := by simp [hlt]
    have hi2 : items2[((i : Nat) : Int).toNat]? = some items2[i] := by simp [hlt2]
    have hc : ((i : Int) + 1) = ((i + 1 : Nat) : Int) := by push_cast; rfl
    rw [hi1, hi2]
    refine wpAny_bind (he i hlt hlt2 _ _ ?_)
    wp_walk
    rw [hc]
    exact ⟨plainId_quiet plain_eq_loop _, ih (i + 1) (by omega) hlt⟩
theorem rct_list {l b : Addr} {items items2 : Array Value} (hl : s.heap.IsList l items) (hb : s.heap.IsList b items2) (hsz : items.size = items2.size) (hu : A.units < cLine)
    (he : ∀ j (h1 : j < items.size) (h2 : j < items2.size), EqT prog w A.in1 s items[j] items2[j]) : RcT prog w A s (.ref l) (.ref b) := fun E Q h => by
  obtain ⟨⟨cls, dd, data, sl⟩, ho, hc, n, hd⟩ := id hl
  obtain ⟨⟨cls2, dd2, data2, sl2⟩, ho2, hc2, n2, hd2⟩ := id hb
  simp only at hc hd hc2 hd2
  subst hc hd hc2 hd2
  refine wpAny_richCompare_same_room (op := .Eq) ⟨_, ho, rfl⟩ ⟨_, ho2, rfl⟩ F.slot_list_eq (call_one F.slot_list_eq ⟨_, ho, rfl⟩ F.entry_list_eq (F.args_list_eq_2 _ _) ?_) hu
  obtain ⟨hp, g, d, tk, os⟩ := s
  have f3 := AutoSeq1.sub_list_list
  have hne : ¬ (items.size != items2.size) = true := by simp [hsz]
  wp_walk using wpAny_loadPart' ho, wpAny_loadPart' ho2
  exact ⟨plainId_quiet plain_eq_loop _, eqt_loop hsz ho ho2 he (show (Value.bool true ≠ Value.notImplemented) ∧ Q (.bool true) _ from ⟨(fun x => nomatch x), h⟩) _ 0 rfl (Nat.zero_le _)⟩
theorem rct_tuple {l b : Addr} {items items2 : Array Value} (hl : s.heap.IsTuple l items) (hb : s.heap.IsTuple b items2) (hsz : items.size = items2.size) (hu : A.units < cLine)
    (he : ∀ j (h1 : j < items.size) (h2 : j < items2.size), EqT prog w A.in1 s items[j] items2[j]) : RcT prog w A s (.ref l) (.ref b) := fun E Q h => by
  obtain ⟨⟨cls, dd, data, sl⟩, ho, hc, n, hd⟩ := id hl
  obtain ⟨⟨cls2, dd2, data2, sl2⟩, ho2, hc2, n2, hd2⟩ := id hb
  simp only at hc hd hc2 hd2
  subst hc hd hc2 hd2
  refine wpAny_richCompare_same_room (op := .Eq) ⟨_, ho, rfl⟩ ⟨_, ho2, rfl⟩ F.slot_tuple_eq (wpAny_call_entry F.slot_tuple_eq ⟨_, ho, rfl⟩ F.entry_tuple_eq ?_ (F.args_tuple_eq_2 _ _)) hu
  obtain ⟨hp, g, d, tk, os⟩ := s
  have f2 := AutoSeq1.sub_tuple_tuple
  wp_walk using wpAny_loadPart' ho, wpAny_loadPart' ho2, wpAny_forIn_list _ (fun rest b s' => b.1 = none ∧ s' = ⟨hp, g, d, tk, os⟩ ∧ ∃ i, rest = (items.toList.zip items2.toList).drop i) _
  case turn =>
    rintro ⟨y, x⟩ rest b s' ⟨hb', rfl, i, hz⟩
    have hlt : i < (items.toList.zip items2.toList).length := by
      rcases Nat.lt_or_ge i (items.toList.zip items2.toList).length with h' | h'
      · exact h'
      · rw [List.drop_of_length_le h'] at hz; cases hz
    have h1 : i < items.size := by simp at hlt; omega
    have h2 : i < items2.size := by omega
    rw [List.drop_eq_getElem_cons hlt] at hz
    injection hz with hyx hrest
    have hy : y = items[i] := by have := congrArg Prod.fst hyx; simpa using this
    have hx : x = items2[i] := by have := congrArg Prod.snd hyx; simpa using this
    subst hy hx
    refine wpAny_bind (he i h1 h2 _ _ ?_)
    wp_walk
    exact ⟨rfl, rfl, i + 1, hrest⟩
  case fin =>
    rintro ⟨b1, b2⟩ s' ⟨hb', rfl, i, hz⟩
    simp only at hb'
    subst hb'
    wp_walk
    exact ⟨_, rfl, (fun x => nomatch x), by simpa [Builtin.Tuple.tupleCompareSizes, hsz] using h⟩
  case h =>
    exact ⟨rfl, rfl, 0, rfl⟩
theorem valueAt_get {κ : Type} [DecidableEq κ] : ∀ {kb : List (κ × Value)} {j : Nat} {k : κ} {v : Value}, (kb.map (·.1)).Nodup → kb[j]? = some (k, v) → valueAt kb k = some v
  | [], j, k, v, _, h => by simp at h
  | p :: r, 0, k, v, _, h => by
    simp at h
    subst h
    simp [valueAt]
  | p :: r, j + 1, k, v, nd, h => by
    rw [List.map_cons] at nd
    obtain ⟨n1, n2⟩ := List.nodup_cons.mp nd
    have h' : r[j]? = some (k, v) := by simpa using h
    have ne : ¬ p.1 = k := fun e => n1 (by rw [e]; exact List.mem_map.mpr ⟨_, List.mem_of_getElem? h', rfl⟩)
    have ih := valueAt_get n2 h'
    unfold valueAt at ih ⊢
    rw [List.find?_cons_of_neg (by simpa using ne)]
    exact ih
theorem rct_dict {κ : Type} [DecidableEq κ] {knd : PySem.KeyKind prog w κ} {a b : Addr} {ka kb : List (κ × Value)} (ha : (a == sysModules) = false) (hb : (b == sysModules) = false) (da : s.heap.DictOf knd a ka) (db : s.heap.DictOf knd b kb)
    (hk : ka.map (·.1) = kb.map (·.1)) (hu : A.units < cLine) (he : ∀ (j : Nat) k u v, ka[j]? = some (k, u) → kb[j]? = some (k, v) → EqT prog w A.in1 s u v) : RcT prog w A s (.ref a) (.ref b) := fun E Q h => by
  have ll : ka.length = kb.length := by have := congrArg List.length hk; simpa using this
  refine wpAny_richCompare_same_room (op := .Eq) da.typeIs db.typeIs PySem.F.slot_dict_eq (wpAny_call_entry PySem.F.slot_dict_eq da.typeIs PySem.F.entry_dict_eq ?_ (PySem.F.args_dict_eq_2 _ _)) hu
  show wpAny _ _ (Builtin.Dict.dictSlotArgs "__eq__" ⟨[.ref a, .ref b], []⟩ >>= _) _ _ s
  refine wpAny_bind ?_
  unfold Builtin.Dict.dictSlotArgs
  refine wpAny_bind (wpAny_notOrdered_dict da.typeIs ?_)
  show wpAny _ _ (pure (Value.ref a, Value.ref b)) _ _ s
  refine wpAny_pure ?_
  refine wpAny_bind (wpAny_isInstance (T := "dict") db.typeIs PySem.F.sub_dict_dict ?_)
  simp only [Bool.not_true, Bool.false_eq_true, if_false]
  refine wpAny_bind (wpAny_pure (wpAny_bind (wpAny_pure ?_)))
  obtain ⟨oa, es, ep, hoa, _, hda, hka, hpa, hna⟩ := da
  obtain ⟨ob, es', ep', hob, _, hdb, hkb, hpb, hnb⟩ := db
  have hla : ka.length = es.size := by rw [← hpa.length]; exact Array.length_toList
  have hlb : kb.length = es'.size := by rw [← hpb.length]; exact Array.length_toList
  refine wpAny_bind ?_
  unfold Builtin.Dict.samePairs Builtin.Dict.showsAll
  rw [if_neg (show ¬ (a == sysModules) = true by rw [ha]; exact Bool.false_ne_true), if_neg (show ¬ (b == sysModules) = true by rw [hb]; exact Bool.false_ne_true)]
  refine wpAny_bind (wpAny_pure (wpAny_bind (wpAny_pure ?_)))
  refine wpAny_bind (wpAny_dictEntries hoa hda ?_)
  dsimp only
  refine wpAny_bind (wpAny_dictEntries hob hdb ?_)
  rw [if_neg (by rw [← hla, ← hlb, ll]; simp)]
  refine wpAny_bind (wpAny_dictEpoch hoa hda ?_)
  refine wpAny_bind ?_
  rw [Std.Legacy.Range.forIn_eq_forIn_range']
  simp only [Std.Legacy.Range.size, Nat.sub_zero, Nat.add_sub_cancel, Nat.div_one]
  have fin : ∃ v, Fin.done (Flow.ret (Value.bool (true == true))) = .done (.ret v) ∧ v ≠ .notImplemented ∧ Q v s := ⟨_, rfl, (fun x => nomatch x), h⟩
  refine wpAny_forIn_list _ (fun rest q s' => s' = s ∧ q = (none, ()) ∧ ∃ i, rest = List.range' i (es.size - i) ∧ i ≤ es.size) _ ?_ ?_ _ _ ⟨rfl, rfl, 0, by simp, Nat.zero_le _⟩
  · rintro x rest q s' ⟨rfl, rfl, i, hr, hi⟩
    have hlt : i < es.size := by
      rcases Nat.lt_or_ge i es.size with h | h
      · exact h
      · rw [Nat.sub_eq_zero_of_le h] at hr; simp at hr
    obtain ⟨rfl, hrest⟩ : x = i ∧ rest = List.range' (i + 1) (es.size - (i + 1)) := by
      have e : es.size - i = (es.size - (i + 1)) + 1 := by omega
      rw [e, List.range'_succ] at hr
      injection hr with h1 h2
      exact ⟨h1, h2⟩
    have hlt' : x < ka.length := by rw [hla]; exact hlt
    have hltb : x < kb.length := by omega
    obtain ⟨k, u, hku⟩ : ∃ k u, ka[x] = (k, u) := ⟨_, _, rfl⟩
    obtain ⟨k', v, hkv⟩ : ∃ k v, kb[x] = (k, v) := ⟨_, _, rfl⟩
    have gk : ka[x]? = some (k, u) := by rw [List.getElem?_eq_getElem hlt', hku]
    have gv : kb[x]? = some (k', v) := by rw [List.getElem?_eq_getElem hltb, hkv]
    have ek : k' = k := by
      have := congrArg (fun l => l[x]?) hk
      simp only [List.getElem?_map, gk, gv] at this
      simpa using this.symm
    subst ek
    have hv := valueAt_get hnb gv
    refine wpAny_bind (wpAny_dictEntries hoa hda ?_)
    rw [Array.getElem?_eq_getElem hlt]
    obtain ⟨hkey, hval⟩ := hpa.get? (i := x) (e := es[x]) (k := k') (v := u) (by rw [Array.getElem?_toList]; exact Array.getElem?_eq_getElem hlt) gk
    obtain ⟨k2, hk2, hh⟩ := hka es[x] (Array.getElem_mem hlt)
    have ekk : k2 = k' := knd.inj _ _ _ hk2 hkey
    rw [ekk] at hh
    show wpAny _ _ (holding [es[x].key, es[x].val] _ >>= _) _ _ _
    rw [hh]
    refine wpAny_bind (wpAny_holding (wpAny_bind (wpAny_dictFind_of hkey hob hdb hkb ?_)))
    have hfind : findBy knd.is es' k' = valueAt kb k' := by
      rw [← hpb.find k']
      clear hlb hpb hkb hdb hob
      obtain ⟨l⟩ := es'
      simp [findBy]
    cases hj : es'.findIdx? fun e => knd.is k' e.key with
    | none =>
      rw [findBy_of_findIdx?, hj, hv] at hfind
      exact nomatch hfind
    | some j =>
      obtain ⟨hjlt, _, _⟩ := Array.findIdx?_eq_some_iff_getElem.mp hj
      have hv' : es'[j].val = v := by
        rw [findBy_of_findIdx?, hj, hv] at hfind
        simpa [Array.getElem?_eq_getElem hjlt] using hfind
      refine wpAny_bind (wpAny_dictEntries hob hdb ?_)
      rw [Array.getElem?_eq_getElem hjlt]
      refine wpAny_holding ?_
      rw [hv', hval]
      refine he x k' u v gk gv _ _ ?_
      show wpAny _ _ (if (!true) = true then _ else _) _ _ _
      rw [if_neg (by decide)]
      refine wpAny_bind (wpAny_dictEpoch hoa hda ?_)
      rw [if_neg (by simp)]
      exact wpAny_pure ⟨rfl, rfl, x + 1, hrest, hlt⟩
  · rintro q s' ⟨rfl, rfl, i, hr, hi⟩
    exact wpAny_pure (wpAny_pure fin)
end
end L2

set_option Elab.async false
set_option linter.all false
set_option maxRecDepth 100000
set_option maxHeartbeats 4000000
namespace L2
open PySem PySem.Spec PyProof.Rows
inductive Pt where
  | int (i : Int)
  | str (x : Str)
  | bl (b : Bool)
  | lst (xs : List Pt)
  | tup (xs : List Pt)
  | dct (ks : List Str) (xs : List Pt)
namespace Pt
mutual
def size : Pt → Nat
  | int _ | str _ | bl _ => 1
  | lst xs | tup xs => 1 + sizeL xs
  | dct _ xs => 1 + sizeL xs
def sizeL : List Pt → Nat
  | [] => 0
  | x :: r => size x + sizeL r
end
mutual
def deep : Pt → Nat
  | int _ | str _ | bl _ => 1
  | lst xs | tup xs => 1 + deepL xs
  | dct _ xs => 1 + deepL xs
def deepL : List Pt → Nat
  | [] => 0
  | x :: r => max (deep x) (deepL r)
end
mutual
def doc : Pt → Prop
  | int _ => True
  | str x => x.length ≤ 100
  | bl _ => False
  | tup _ => False
  | lst xs => docL xs
  | dct ks xs => ks.length = xs.length ∧ ks.Nodup ∧ (∀ k ∈ ks, nameB k = true) ∧ ks.length < 64 ∧ docL xs
def docL : List Pt → Prop
  | [] => True
  | x :: r => doc x ∧ docL r
end
def look (ks : List Str) (xs : List Pt) (k : Str) : Option Pt := (ks.zip xs).lookup k
mutual
def eqP : Pt → Pt → Bool
  | int i, int j => i == j
  | str x, str y => x == y
  | bl a, bl b => a == b
  | lst xs, lst ys => eqPL xs ys
  | tup xs, tup ys => eqPL xs ys
  | dct ks xs, dct ls ys => ks.length == ls.length && eqPK ks xs ls ys
  | _, _ => false
def eqPL : List Pt → List Pt → Bool
  | [], [] => true
  | x :: xs, y :: ys => eqP x y && eqPL xs ys
  | _, _ => false
def eqPK : List Str → List Pt → List Str → List Pt → Bool
  | k :: ks, x :: xs, ls, ys => (match look ls ys k with | some y => eqP x y | none => false) && eqPK ks xs ls ys
  | _, _, _, _ => true
end
theorem size_pos (t : Pt) : 1 ≤ t.size := by cases t <;> simp only [size] <;> omega
theorem deep_pos (t : Pt) : 1 ≤ t.deep := by cases t <;> simp only [deep] <;> omega
theorem sizeL_mem : ∀ {xs : List Pt} {x : Pt}, x ∈ xs → x.size ≤ sizeL xs
  | y :: r, x, h => by
    simp only [sizeL]
    rcases List.mem_cons.mp h with rfl | h
    · omega
    · have := sizeL_mem h; omega
theorem deepL_mem : ∀ {xs : List Pt} {x : Pt}, x ∈ xs → x.deep ≤ deepL xs
  | y :: r, x, h => by
    simp only [deepL]
    rcases List.mem_cons.mp h with rfl | h
    · omega
    · have := deepL_mem h; omega
theorem lenL : ∀ xs : List Pt, xs.length ≤ sizeL xs
  | [] => Nat.le_refl _
  | x :: r => by have := lenL r; have := size_pos x; simp only [List.length_cons, sizeL]; omega
theorem docL_mem : ∀ {xs : List Pt}, docL xs → ∀ x ∈ xs, doc x
  | y :: r, h, x, hx => by
    simp only [docL] at h
    rcases List.mem_cons.mp hx with rfl | hx
    · exact h.1
    · exact docL_mem h.2 x hx
theorem docL_of : ∀ {xs : List Pt}, (∀ x ∈ xs, doc x) → docL xs
  | [], _ => trivial
  | x :: r, h => ⟨h x List.mem_cons_self, docL_of fun y hy => h y (List.mem_cons_of_mem _ hy)⟩
theorem sizeL_append (xs ys : List Pt) : sizeL (xs ++ ys) = sizeL xs + sizeL ys := by
  induction xs with
  | nil => simp [sizeL]
  | cons x r ih => simp only [List.cons_append, sizeL, ih]; omega
theorem look_mem {ks : List Str} {xs : List Pt} {k : Str} {x : Pt} (h : look ks xs k = some x) : k ∈ ks ∧ x ∈ xs := by
  unfold look at h
  induction ks generalizing xs with
  | nil => simp at h
  | cons y r ih =>
    cases xs with
    | nil => simp at h
    | cons z zs =>
      simp only [List.zip_cons_cons, List.lookup_cons] at h
      by_cases e : k = y
      · subst e
        simp at h
        subst h
        exact ⟨List.mem_cons_self, List.mem_cons_self⟩
      · have : (k == y) = false := by simpa using e
        rw [this] at h
        have := ih h
        exact ⟨List.mem_cons_of_mem _ this.1, List.mem_cons_of_mem _ this.2⟩
theorem look_some {ks : List Str} {xs : List Pt} (l : ks.length = xs.length) {k : Str} (hk : k ∈ ks) : ∃ x, look ks xs k = some x := by
  unfold look
  induction ks generalizing xs with
  | nil => cases hk
  | cons y r ih =>
    cases xs with
    | nil => simp at l
    | cons z zs =>
      simp only [List.zip_cons_cons, List.lookup_cons]
      by_cases e : k = y
      · subst e; exact ⟨z, by simp⟩
      · have : (k == y) = false := by simpa using e
        rw [this]
        exact ih (by simpa using l) ((List.mem_cons.mp hk).resolve_left e)
end Pt
mutual
inductive Val (H : Hp) : V → Pt → Prop
  | int (i : Int) : Val H (.int i) (.int i)
  | str (x : Str) : Val H (.str x) (.str x)
  | bl (b : Bool) : Val H (.bl b) (.bl b)
  | lst {a : Addr} {vs : List V} {ts : List Pt} (h : Rd H a (.lst vs)) (r : ValL H vs ts) : Val H (.ref a) (.lst ts)
  | tup {a : Addr} {vs : List V} {ts : List Pt} (h : H a = some (.tup vs)) (r : ValL H vs ts) : Val H (.ref a) (.tup ts)
  | dct {a : Addr} {kvs : List (Key × V)} {ks : List Str} {ts : List Pt} (h : Rd H a (.dK kvs)) (hk : kvs.map (·.1) = ks.map Sum.inr) (r : ValL H (kvs.map (·.2)) ts) : Val H (.ref a) (.dct ks ts)
inductive ValL (H : Hp) : List V → List Pt → Prop
  | nil : ValL H [] []
  | cons {v : V} {t : Pt} {vs : List V} {ts : List Pt} (h : Val H v t) (r : ValL H vs ts) : ValL H (v :: vs) (t :: ts)
end
structure Kps (H H' : Hp) : Prop where
  rd : SameR H H'
  tp : ∀ a vs, H a = some (.tup vs) → H' a = some (.tup vs)
theorem Kps.of {H H' : Hp} (s : Same H H') : Kps H H' := ⟨s.r, fun a vs e => s _ _ e⟩
theorem Kps.frz {a : Addr} {o : Obj} {kvs : List (Key × V)} {H Hf : Hp} (F : Frz a o kvs H Hf) : Kps H Hf := ⟨F.rd, fun b vs e => by
  have hb : b ≠ a := fun z => by
    subst z
    rcases F.rda with r | ⟨o, r⟩ <;> rw [r] at e <;> cases e
  rw [F.ne b hb]; exact e⟩
theorem Kps.trans {H H1 H2 : Hp} (a : Kps H H1) (b : Kps H1 H2) : Kps H H2 := ⟨a.rd.trans b.rd, fun c vs e => b.tp c vs (a.tp c vs e)⟩
mutual
theorem Val.upK {H H' : Hp} (s : Kps H H') : ∀ {v : V} {t : Pt}, Val H v t → Val H' v t
  | _, _, .int i => .int i
  | _, _, .str x => .str x
  | _, _, .bl b => .bl b
  | _, _, .lst h r => .lst (s.rd _ _ h) (r.upK s)
  | _, _, .tup h r => .tup (s.tp _ _ h) (r.upK s)
  | _, _, .dct h hk r => .dct (s.rd _ _ h) hk (r.upK s)
theorem ValL.upK {H H' : Hp} (s : Kps H H') : ∀ {vs : List V} {ts : List Pt}, ValL H vs ts → ValL H' vs ts
  | _, _, .nil => .nil
  | _, _, .cons h r => .cons (h.upK s) (r.upK s)
end
theorem Val.up {H H' : Hp} {v : V} {t : Pt} (h : Val H v t) (s : Same H H') : Val H' v t := h.upK (.of s)
theorem ValL.up {H H' : Hp} {v : List V} {t : List Pt} (h : ValL H v t) (s : Same H H') : ValL H' v t := h.upK (.of s)
theorem ValL.length {H : Hp} : ∀ {vs : List V} {ts : List Pt}, ValL H vs ts → vs.length = ts.length
  | _, _, .nil => rfl
  | _, _, .cons _ r => by rw [List.length_cons, List.length_cons, r.length]
theorem ValL.get {H : Hp} : ∀ {vs : List V} {ts : List Pt}, ValL H vs ts → ∀ {i : Nat} {v : V}, vs[i]? = some v → ∃ t, ts[i]? = some t ∧ Val H v t
  | _, _, .nil, i, v, h => by simp at h
  | _, _, .cons h r, 0, v, e => by
    simp at e
    subst e
    exact ⟨_, by simp, h⟩
  | _, _, .cons h r, i + 1, v, e => by
    obtain ⟨t, h1, h2⟩ := r.get (i := i) (v := v) (by simpa using e)
    exact ⟨t, by simpa using h1, h2⟩
theorem ValL.get' {H : Hp} : ∀ {vs : List V} {ts : List Pt}, ValL H vs ts → ∀ {i : Nat} {t : Pt}, ts[i]? = some t → ∃ v, vs[i]? = some v ∧ Val H v t
  | _, _, .nil, i, v, h => by simp at h
  | _, _, .cons h r, 0, v, e => by
    simp at e
    subst e
    exact ⟨_, by simp, h⟩
  | _, _, .cons h r, i + 1, v, e => by
    obtain ⟨t, h1, h2⟩ := r.get' (i := i) (t := v) (by simpa using e)
    exact ⟨t, by simpa using h1, h2⟩
theorem ValL.append {H : Hp} : ∀ {vs : List V} {ts : List Pt}, ValL H vs ts → ∀ {ws : List V} {us : List Pt}, ValL H ws us → ValL H (vs ++ ws) (ts ++ us)
  | _, _, .nil, _, _, s => s
  | _, _, .cons h r, _, _, s => .cons h (r.append s)
theorem Val.at_name {H : Hp} : ∀ {kvs : List (Key × V)} {ks : List Str} {ts : List Pt}, kvs.map (·.1) = ks.map Sum.inr → ValL H (kvs.map (·.2)) ts → ∀ k : Str, (∃ v t, valV kvs (Sum.inr k) = some v ∧ Pt.look ks ts k = some t ∧ Val H v t) ∨ (valV kvs (Sum.inr k) = none ∧ Pt.look ks ts k = none)
  | [], [], _, _, r, k => by cases r; exact .inr ⟨rfl, rfl⟩
  | [], _ :: _, _, h, _, _ => by simp at h
  | _ :: _, [], _, h, _, _ => by simp at h
  | (y, v) :: kvs, x :: ks, ts, h, r, k => by
    simp only [List.map_cons, List.cons.injEq] at h
    obtain ⟨e, h⟩ := h
    subst e
    cases r with
    | @cons _ t _ ts h0 r =>
      by_cases e : k = x
      · subst e
        exact .inl ⟨v, t, valV_pos rfl, by simp [Pt.look], h0⟩
      · have nb : (k == x) = false := by simpa using e
        have e1 : valV ((Sum.inr x, v) :: kvs) (Sum.inr k) = valV kvs (Sum.inr k) := valV_neg (by intro z; exact e (Sum.inr.inj z).symm)
        have e2 : Pt.look (x :: ks) (t :: ts) k = Pt.look ks ts k := by simp [Pt.look, List.zip_cons_cons, List.lookup_cons, nb]
        rw [e1, e2]
        exact Val.at_name h r k
end L2

set_option Elab.async false
set_option linter.all false
set_option maxRecDepth 100000
set_option maxHeartbeats 4000000
namespace L2
open PySem PySem.Spec PyProof.Rows
section
variable {X : Cx} {pins : List (Addr × Obj)} {σ : St} {H : Hp} {s : Shared}
theorem ValL.at {vs : List V} {ts : List Pt} {its : List Value} (r : ValL H vs ts) (rv : Vals vs its) {j : Nat} (h : j < its.toArray.size) : ∃ v t, vs[j]? = some v ∧ ts[j]? = some t ∧ Val H v t ∧ RelV v its.toArray[j] := by
  obtain ⟨v, gv, rel⟩ := vals_at rv h
  obtain ⟨t, gt, hv⟩ := r.get gv
  exact ⟨v, t, gv, gt, hv, rel⟩
theorem Pt.rcT_of (I : Inv X pins σ H s) : ∀ (t : Pt), (∀ t' : Pt, t'.deep < t.deep → ∀ {x y : V}, Val H x t' → Val H y t' → ∀ {A : Around} {u v : Value}, A.units + t'.deep < cLine → RelV x u → RelV y v → EqT X.prog X.w A s u v) → ∀ {a b : Addr}, Val H (.ref a) t → Val H (.ref b) t → ∀ {A : Around}, A.units + t.deep < cLine → RcT X.prog X.w A s (.ref a) (.ref b)
  | .int _, _, _, _, h, _, _, _ => nomatch h
  | .str _, _, _, _, h, _, _, _ => nomatch h
  | .bl _, _, _, _, h, _, _, _ => nomatch h
  | .lst ts, ih, a, b, .lst (vs := vs) ha ra, .lst (vs := ws) hb rb, A, hu => by
    simp only [Pt.deep] at hu
    obtain ⟨its, r1, p1, _⟩ := I.list (.inl ha)
    obtain ⟨its2, r2, p2, _⟩ := I.list (.inl hb)
    have e1 : its.toArray.size = ts.length := by rw [List.size_toArray, ← r1.length, ra.length]
    have e2 : its2.toArray.size = ts.length := by rw [List.size_toArray, ← r2.length, rb.length]
    refine rct_list p1.isList p2.isList (by rw [e1, e2]) (by omega) fun j h1 h2 => ?_
    obtain ⟨v, t, g1, g2, hv, rv⟩ := ra.at r1 h1
    obtain ⟨v', t', g1', g2', hv', rv'⟩ := rb.at r2 h2
    have e : t' = t := by rw [g2] at g2'; exact (Option.some.inj g2').symm
    subst e
    have dl := Pt.deepL_mem (List.mem_of_getElem? g2)
    exact ih t' (by simp only [Pt.deep]; omega) hv hv' (by show A.units + 1 + _ < cLine; omega) rv rv'
  | .tup ts, ih, a, b, .tup (vs := vs) ha ra, .tup (vs := ws) hb rb, A, hu => by
    simp only [Pt.deep] at hu
    obtain ⟨its, r1, p1, _⟩ := I.tuple (SqT.of ha)
    obtain ⟨its2, r2, p2, _⟩ := I.tuple (SqT.of hb)
    have e1 : its.toArray.size = ts.length := by rw [List.size_toArray, ← r1.length, ra.length]
    have e2 : its2.toArray.size = ts.length := by rw [List.size_toArray, ← r2.length, rb.length]
    refine rct_tuple p1 p2 (by rw [e1, e2]) (by omega) fun j h1 h2 => ?_
    obtain ⟨v, t, g1, g2, hv, rv⟩ := ra.at r1 h1
    obtain ⟨v', t', g1', g2', hv', rv'⟩ := rb.at r2 h2
    have e : t' = t := by rw [g2] at g2'; exact (Option.some.inj g2').symm
    subst e
    have dl := Pt.deepL_mem (List.mem_of_getElem? g2)
    exact ih t' (by simp only [Pt.deep]; omega) hv hv' (by show A.units + 1 + _ < cLine; omega) rv rv'
  | .dct ks ts, ih, a, b, .dct (kvs := kvs) ha hka ra, .dct (kvs := kws) hb hkb rb, A, hu => by
    simp only [Pt.deep] at hu
    obtain ⟨z, hm, vs, rel, dd⟩ := dk_rd I.hok ha
    obtain ⟨z', hm', vs', rel', dd'⟩ := dk_rd I.hok hb
    have k1 : vs.map (·.1) = kvs.map (·.1) := (KV.keys rel).symm
    have k2 : vs'.map (·.1) = kws.map (·.1) := (KV.keys rel').symm
    refine rct_dict hm hm' dd dd' (by rw [k1, k2, hka, hkb]) (by omega) fun j k u u' g g' => ?_
    have gv : (vs.map (·.2))[j]? = some u := by rw [List.getElem?_map, g]; rfl
    have gv' : (vs'.map (·.2))[j]? = some u' := by rw [List.getElem?_map, g']; rfl
    have h1 : j < (vs.map (·.2)).toArray.size := by rw [List.size_toArray]; exact (List.getElem?_eq_some_iff.mp gv).1
    have h2 : j < (vs'.map (·.2)).toArray.size := by rw [List.size_toArray]; exact (List.getElem?_eq_some_iff.mp gv').1
    obtain ⟨v, t, g1, g2, hv, rv⟩ := ra.at (kv_vals rel) h1
    obtain ⟨v', t', g1', g2', hv', rv'⟩ := rb.at (kv_vals rel') h2
    rw [arr_at gv h1] at rv
    rw [arr_at gv' h2] at rv'
    have e : t' = t := by rw [g2] at g2'; exact (Option.some.inj g2').symm
    subst e
    have dl := Pt.deepL_mem (List.mem_of_getElem? g2)
    exact ih t' (by simp only [Pt.deep]; omega) hv hv' (by show A.units + 1 + _ < cLine; omega) rv rv'
theorem Pt.eqT_of (I : Inv X pins σ H s) : ∀ (t : Pt), (∀ t' : Pt, t'.deep < t.deep → ∀ {x y : V}, Val H x t' → Val H y t' → ∀ {A : Around} {u v : Value}, A.units + t'.deep < cLine → RelV x u → RelV y v → EqT X.prog X.w A s u v) → ∀ {x y : V}, Val H x t → Val H y t → ∀ {A : Around} {u v : Value}, A.units + t.deep < cLine → RelV x u → RelV y v → EqT X.prog X.w A s u v
  | .int i, ih, _, _, .int _, .int _, A, u, v, _, ru, rv => by
    obtain ⟨t1, rfl⟩ : ∃ t, u = Value.int i t := ru
    obtain ⟨t2, rfl⟩ : ∃ t, v = Value.int i t := rv
    have := SeqAt.EqAt.int_int (A := A) (s := s) i t1 i t2
    rw [beq_self_eq_true] at this
    exact .of this
  | .str x, ih, _, _, .str _, .str _, A, u, v, _, ru, rv => by
    obtain ⟨t1, rfl⟩ : ∃ t, u = Value.str x t := ru
    obtain ⟨t2, rfl⟩ : ∃ t, v = Value.str x t := rv
    have := SeqAt.EqAt.str_str (A := A) (s := s) x t1 x t2
    rw [beq_self_eq_true] at this
    exact .of this
  | .bl b, ih, _, _, .bl _, .bl _, A, u, v, _, ru, rv => by
    cases (show u = Value.bool b from ru)
    cases (show v = Value.bool b from rv)
    exact .of (SeqAt.EqAt.same _)
  | .lst ts, ih, _, _, .lst (a := a) ha ra, .lst (a := b) hb rb, A, u, v, hu, ru, rv => by
    cases (show u = Value.ref a from ru)
    cases (show v = Value.ref b from rv)
    exact EqT.refs fun _ => Pt.rcT_of I (.lst ts) ih (.lst ha ra) (.lst hb rb) hu
  | .tup ts, ih, _, _, .tup (a := a) ha ra, .tup (a := b) hb rb, A, u, v, hu, ru, rv => by
    cases (show u = Value.ref a from ru)
    cases (show v = Value.ref b from rv)
    exact EqT.refs fun _ => Pt.rcT_of I (.tup ts) ih (.tup ha ra) (.tup hb rb) hu
  | .dct ks ts, ih, _, _, .dct (a := a) ha ka ra, .dct (a := b) hb kb rb, A, u, v, hu, ru, rv => by
    cases (show u = Value.ref a from ru)
    cases (show v = Value.ref b from rv)
    exact EqT.refs fun _ => Pt.rcT_of I (.dct ks ts) ih (.dct ha ka ra) (.dct hb kb rb) hu
theorem Pt.eqT_n (I : Inv X pins σ H s) : ∀ (n : Nat) (t : Pt), t.deep ≤ n → ∀ {x y : V}, Val H x t → Val H y t → ∀ {A : Around} {u v : Value}, A.units + t.deep < cLine → RelV x u → RelV y v → EqT X.prog X.w A s u v
  | 0, t, h => by have := Pt.deep_pos t; omega
  | n + 1, t, h => fun hx hy => Pt.eqT_of I t (fun t' h' => Pt.eqT_n I n t' (by omega)) hx hy
theorem Pt.rcT (I : Inv X pins σ H s) (t : Pt) {a b : Addr} (ha : Val H (.ref a) t) (hb : Val H (.ref b) t) {A : Around} (hu : A.units + t.deep < cLine) : RcT X.prog X.w A s (.ref a) (.ref b) :=
  Pt.rcT_of I t (fun t' _ => Pt.eqT_n I _ t' (Nat.le_refl _)) ha hb hu
inductive rEqS (x y : V) (H : Hp) (Q : VK) : Prop
  | mk (a b : Addr) (t : Pt) (x0 : x = .ref a) (x1 : y = .ref b) (ha : Val H (.ref a) t) (hb : Val H (.ref b) t) (d : t.deep ≤ 60) (q : Q (.bl true) H) : rEqS x y H Q
theorem op_eqS (hu : X.A.units + 64 < cLine) : OpR X (compareOp .Eq) rEqS := by
  intro pins s σ H x y v u Q I rx ry h
  obtain ⟨a, b, t, rfl, rfl, ha, hb, hd, q⟩ := h
  cases rx
  cases ry
  exact Pt.rcT I t ha hb (A := X.A) (by omega) _ _ ⟨.bl true, H, I, rfl, q⟩
end
end L2

set_option Elab.async false
set_option linter.all false
set_option maxRecDepth 100000
set_option maxHeartbeats 4000000
namespace L2
open PySem PySem.Spec PyProof.Rows
inductive Sm0 : Pt → Prop
  | int (i : Int) : Sm0 (.int i)
  | str (x : Str) : Sm0 (.str x)
  | nil : Sm0 (.lst [])
  | emp : Sm0 (.dct [] [])
inductive Sm : Pt → Prop
  | one {t : Pt} (h : Sm0 t) : Sm t
  | row {xs : List Pt} (h : ∀ x ∈ xs, Sm0 x) : Sm (.lst xs)
  | tab {ks : List Str} {xs : List Pt} (h : ∀ x ∈ xs, Sm0 x) : Sm (.dct ks xs)
section
variable {A : Around} {s : Shared}
theorem eqat_of {u v : Value} {b : Bool} (ne : u ≠ v) (nf : (∃ i t, u = .int i t) ∨ (∃ x t, u = .str x t) ∨ ∃ a, u = .ref a) (h : SeqAt.RcAt A s u v b) : SeqAt.EqAt A s u v b := fun prog w E Q hq => by
  unfold eqBool
  refine wpAny_holding ?_
  refine wpAny_ite_split (fun hab => absurd (eq_of_beq hab) ne) (fun _ => ?_)
  rcases nf with ⟨i, t, rfl⟩ | ⟨x, t, rfl⟩ | ⟨a, rfl⟩
  · exact wpAny_bind (h prog w E _ (wpAny_truthy_bool hq))
  · exact wpAny_bind (h prog w E _ (wpAny_truthy_bool hq))
  · exact wpAny_bind (h prog w E _ (wpAny_truthy_bool hq))
theorem rc_empty_dict {a b : Addr} {dd dd2 : Option Addr} {es : Array DictEntry} {n n2 : Nat} {sl sl2 : Array (Option Value)} (ha : (a == sysModules) = false) (hb : (b == sysModules) = false) (da : IsDct s.heap a dd #[] n sl) (db : IsDct s.heap b dd2 es n2 sl2) (hu : A.units < cLine) :
    SeqAt.RcAt A s (.ref a) (.ref b) (es.size == 0) := fun prog w E Q h => by
  have ta : s.TypeIs (.ref a) "dict" := ⟨_, da.ho, rfl⟩
  have tb : s.TypeIs (.ref b) "dict" := ⟨_, db.ho, rfl⟩
  refine wpAny_richCompare_same_room (op := .Eq) ta tb PySem.F.slot_dict_eq (wpAny_call_entry PySem.F.slot_dict_eq ta PySem.F.entry_dict_eq ?_ (PySem.F.args_dict_eq_2 _ _)) hu
  show wpAny _ _ (Builtin.Dict.dictSlotArgs "__eq__" ⟨[.ref a, .ref b], []⟩ >>= _) _ _ s
  refine wpAny_bind ?_
  unfold Builtin.Dict.dictSlotArgs
  refine wpAny_bind (wpAny_notOrdered_dict ta ?_)
  show wpAny _ _ (pure (Value.ref a, Value.ref b)) _ _ s
  refine wpAny_pure ?_
  refine wpAny_bind (wpAny_isInstance (T := "dict") tb PySem.F.sub_dict_dict ?_)
  simp only [Bool.not_true, Bool.false_eq_true, if_false]
  refine wpAny_bind (wpAny_pure (wpAny_bind (wpAny_pure ?_)))
  refine wpAny_bind ?_
  unfold Builtin.Dict.samePairs Builtin.Dict.showsAll
  rw [if_neg (show ¬ (a == sysModules) = true by rw [ha]; exact Bool.false_ne_true), if_neg (show ¬ (b == sysModules) = true by rw [hb]; exact Bool.false_ne_true)]
  refine wpAny_bind (wpAny_pure (wpAny_bind (wpAny_pure ?_)))
  refine wpAny_bind (wpAny_dictEntries da.ho rfl ?_)
  dsimp only
  refine wpAny_bind (wpAny_dictEntries db.ho rfl ?_)
  by_cases hz : es.size = 0
  · rw [if_neg (by rw [hz]; simp)]
    refine wpAny_bind (wpAny_dictEpoch da.ho rfl ?_)
    refine wpAny_bind ?_
    rw [Std.Legacy.Range.forIn_eq_forIn_range']
    show wpAny _ _ (forIn (List.range' 0 0) _ _) _ _ _
    rw [List.range'_zero, List.forIn_nil]
    refine wpAny_pure (wpAny_pure (wpAny_pure ⟨_, rfl, (fun x => nomatch x), ?_⟩))
    rw [hz] at h
    exact h
  · rw [if_pos (by simpa using fun z => hz z.symm)]
    refine wpAny_bind (wpAny_rule (wpAny_pure (wpAny_pure ⟨_, rfl, (fun x => nomatch x), ?_⟩)))
    have : (es.size == 0) = false := by simpa using hz
    rw [this] at h
    exact h
end
section
variable {X : Cx} {pins : List (Addr × Obj)} {σ : St} {H : Hp} {s : Shared}
theorem eqPL_len : ∀ {xs ys : List Pt}, xs.length ≠ ys.length → Pt.eqPL xs ys = false
  | [], [], h => by simp at h
  | [], _ :: _, _ => by simp [Pt.eqPL]
  | _ :: _, [], _ => by simp [Pt.eqPL]
  | x :: xs, y :: ys, h => by
    have := eqPL_len (xs := xs) (ys := ys) (by simpa using h)
    simp [Pt.eqPL, this]
def pairE (xs ys : List Pt) (j : Nat) : Bool := match xs[j]?, ys[j]? with
  | some x, some y => Pt.eqP x y
  | _, _ => false
theorem eqPL_range : ∀ {xs ys : List Pt}, xs.length = ys.length → (List.range xs.length).all (pairE xs ys) = Pt.eqPL xs ys
  | [], [], _ => by simp [Pt.eqPL]
  | [], _ :: _, h => by simp at h
  | _ :: _, [], h => by simp at h
  | x :: xs, y :: ys, h => by
    have ih := eqPL_range (xs := xs) (ys := ys) (by simpa using h)
    rw [List.length_cons, List.range_succ_eq_map, List.all_cons, List.all_map]
    have e0 : pairE (x :: xs) (y :: ys) 0 = Pt.eqP x y := by simp [pairE]
    have e1 : (pairE (x :: xs) (y :: ys) ∘ Nat.succ) = pairE xs ys := by
      funext j
      simp [pairE]
    rw [e0, e1, ih]
    simp [Pt.eqPL]
theorem dk_obj (I : Inv X pins σ H s) {a : Addr} {kvs : List (Key × V)} (h : Rd H a (.dK kvs)) : (a == sysModules) = false ∧ ∃ dd es n sl, IsDct s.heap a dd es n sl ∧ es.size = kvs.length := by
  obtain ⟨z, hm, vs, rel, ⟨⟨cls, dd, data, sl⟩, es, n, ho, hc, hd, hk, hp, hn⟩⟩ := dk_rd I.hok h
  have hc1 : cls = .type "dict" := hc.1
  simp only at hd
  subst hc1 hd
  refine ⟨hm, dd, es, n, sl, ⟨ho⟩, ?_⟩
  have := hp.length
  rw [rel.length, ← this]
  simp
theorem sm0_rc (I : Inv X pins σ H s) {p t : Pt} (h : Sm0 p) (d : t.doc) {x y : V} (hx : Val H x p) (hy : Val H y t) {A : Around} {u v : Value} (hu : A.units + 1 < cLine) (ru : RelV x u) (rv : RelV y v) : SeqAt.RcAt A s u v (Pt.eqP p t) := by
  cases h with
  | int i =>
    cases hx
    obtain ⟨t1, rfl⟩ : ∃ t, u = Value.int i t := ru
    cases hy with
    | int j => obtain ⟨t2, rfl⟩ : ∃ t, v = Value.int j t := rv; simp only [Pt.eqP]; exact SeqAt.RcAt.int_int i t1 j t2
    | str z => obtain ⟨t2, rfl⟩ : ∃ t, v = Value.str z t := rv; simp only [Pt.eqP]; exact SeqAt.RcAt.int_str i t1 z t2
    | bl b => simp [Pt.doc] at d
    | tup _ _ => simp [Pt.doc] at d
    | @lst b vs ts hb rb =>
      cases (show v = Value.ref b from rv)
      obtain ⟨its, r1, p1, _⟩ := I.list (.inl hb)
      simp only [Pt.eqP]
      exact SeqAt.RcAt.int_list i t1 p1.isList (by omega)
    | @dct b kvs ks ts hb hk rb =>
      cases (show v = Value.ref b from rv)
      obtain ⟨_, dd, es, n, sl, od, _⟩ := dk_obj I hb
      simp only [Pt.eqP]
      exact rc_int_dict i t1 od (by omega)
  | str x0 =>
    cases hx
    obtain ⟨t1, rfl⟩ : ∃ t, u = Value.str x0 t := ru
    cases hy with
    | int j => obtain ⟨t2, rfl⟩ : ∃ t, v = Value.int j t := rv; simp only [Pt.eqP]; exact SeqAt.RcAt.str_int x0 t1 j t2
    | str z => obtain ⟨t2, rfl⟩ : ∃ t, v = Value.str z t := rv; simp only [Pt.eqP]; exact SeqAt.RcAt.str_str x0 t1 z t2
    | bl b => simp [Pt.doc] at d
    | tup _ _ => simp [Pt.doc] at d
    | @lst b vs ts hb rb =>
      cases (show v = Value.ref b from rv)
      obtain ⟨its, r1, p1, _⟩ := I.list (.inl hb)
      simp only [Pt.eqP]
      exact SeqAt.RcAt.str_list x0 t1 p1.isList (by omega)
    | @dct b kvs ks ts hb hk rb =>
      cases (show v = Value.ref b from rv)
      obtain ⟨_, dd, es, n, sl, od, _⟩ := dk_obj I hb
      simp only [Pt.eqP]
      exact rc_str_dict x0 t1 od (by omega)
  | nil =>
    cases hx with
    | @lst a vs0 _ ha ra =>
      cases ra
      cases (show u = Value.ref a from ru)
      obtain ⟨its0, r0, p0, _⟩ := I.list (.inl ha)
      cases r0
      cases hy with
      | int j => obtain ⟨t2, rfl⟩ : ∃ t, v = Value.int j t := rv; simp only [Pt.eqP]; exact SeqAt.RcAt.list_int j t2 p0.isList (by omega)
      | str z => obtain ⟨t2, rfl⟩ : ∃ t, v = Value.str z t := rv; simp only [Pt.eqP]; exact SeqAt.RcAt.list_str z t2 p0.isList (by omega)
      | bl b => simp [Pt.doc] at d
      | tup _ _ => simp [Pt.doc] at d
      | @lst b vs ts hb rb =>
        cases (show v = Value.ref b from rv)
        obtain ⟨its, r1, p1, _⟩ := I.list (.inl hb)
        have e1 : its.toArray.size = ts.length := by rw [List.size_toArray, ← r1.length, rb.length]
        simp only [Pt.eqP]
        cases ts with
        | nil =>
          have := SeqAt.RcAt.lists (A := A) (e := fun _ => true) p0.isList p1.isList (by rw [e1]; rfl) (by omega) (fun j h1 h2 => absurd h1 (Nat.not_lt_zero _))
          simpa [Pt.eqPL] using this
        | cons t ts =>
          simp only [Pt.eqPL]
          exact SeqAt.RcAt.lists_lengths p0.isList p1.isList (by rw [e1]; simp) (by omega)
      | @dct b kvs ks ts hb hk rb =>
        cases (show v = Value.ref b from rv)
        obtain ⟨_, dd, es, n, sl, od, _⟩ := dk_obj I hb
        simp only [Pt.eqP]
        exact rc_list_dict p0.isList od (by omega)
  | emp =>
    cases hx with
    | @dct a kvs0 _ _ ha hka ra =>
      cases (show u = Value.ref a from ru)
      have k0 : kvs0 = [] := by
        cases kvs0 with
        | nil => rfl
        | cons _ _ => simp at hka
      subst k0
      obtain ⟨hma, dd0, es0, n0, sl0, od0, z0⟩ := dk_obj I ha
      have e0 : es0 = #[] := Array.size_eq_zero_iff.mp z0
      subst e0
      cases hy with
      | int j => obtain ⟨t2, rfl⟩ : ∃ t, v = Value.int j t := rv; simp only [Pt.eqP]; exact rc_dict_int j t2 od0 (by omega)
      | str z => obtain ⟨t2, rfl⟩ : ∃ t, v = Value.str z t := rv; simp only [Pt.eqP]; exact rc_dict_str z t2 od0 (by omega)
      | bl b => simp [Pt.doc] at d
      | tup _ _ => simp [Pt.doc] at d
      | @lst b vs ts hb rb =>
        cases (show v = Value.ref b from rv)
        obtain ⟨its, r1, p1, _⟩ := I.list (.inl hb)
        simp only [Pt.eqP]
        exact rc_dict_list p1.isList od0 (by omega)
      | @dct b kvs ks ts hb hk rb =>
        cases (show v = Value.ref b from rv)
        obtain ⟨hmb, dd, es, n, sl, od, ez⟩ := dk_obj I hb
        have kl : kvs.length = ks.length := by have := congrArg List.length hk; simpa using this
        have := rc_empty_dict (A := A) hma hmb od0 od (by omega)
        rw [ez, kl] at this
        have e : Pt.eqP (.dct [] []) (.dct ks ts) = (ks.length == 0) := by
          simp only [Pt.eqP, Pt.eqPK, Bool.and_true, List.length_nil]
          cases ks <;> simp
        rw [e]
        exact this
theorem sm0_eq (I : Inv X pins σ H s) {p t : Pt} (h : Sm0 p) (d : t.doc) {x y : V} (hx : Val H x p) (hy : Val H y t) {A : Around} {u v : Value} (hu : A.units + 1 < cLine) (ru : RelV x u) (rv : RelV y v) : SeqAt.EqAt A s u v (Pt.eqP p t) := by
  by_cases e : u = v
  · subst e
    have tr : Pt.eqP p t = true := by
      cases h with
      | int i =>
        cases hx
        obtain ⟨t1, rfl⟩ : ∃ t, u = Value.int i t := ru
        cases hy with
        | int j => obtain ⟨t2, e⟩ : ∃ t, Value.int i t1 = Value.int j t := rv; cases e; simp [Pt.eqP]
        | str z => obtain ⟨t2, e⟩ : ∃ t, Value.int i t1 = Value.str z t := rv; cases e
        | bl b => cases (show Value.int i t1 = Value.bool b from rv)
        | @tup b _ _ _ _ => cases (show Value.int i t1 = Value.ref b from rv)
        | @lst b _ _ _ _ => cases (show Value.int i t1 = Value.ref b from rv)
        | @dct b _ _ _ _ _ _ => cases (show Value.int i t1 = Value.ref b from rv)
      | str x0 =>
        cases hx
        obtain ⟨t1, rfl⟩ : ∃ t, u = Value.str x0 t := ru
        cases hy with
        | int j => obtain ⟨t2, e⟩ : ∃ t, Value.str x0 t1 = Value.int j t := rv; cases e
        | str z => obtain ⟨t2, e⟩ : ∃ t, Value.str x0 t1 = Value.str z t := rv; cases e; simp [Pt.eqP]
        | bl b => cases (show Value.str x0 t1 = Value.bool b from rv)
        | @tup b _ _ _ _ => cases (show Value.str x0 t1 = Value.ref b from rv)
        | @lst b _ _ _ _ => cases (show Value.str x0 t1 = Value.ref b from rv)
        | @dct b _ _ _ _ _ _ => cases (show Value.str x0 t1 = Value.ref b from rv)
      | nil =>
        cases hx with
        | @lst a vs0 _ ha ra =>
          cases ra
          cases (show u = Value.ref a from ru)
          cases hy with
          | int j => obtain ⟨t2, e⟩ : ∃ t, Value.ref a = Value.int j t := rv; cases e
          | str z => obtain ⟨t2, e⟩ : ∃ t, Value.ref a = Value.str z t := rv; cases e
          | bl b => cases (show Value.ref a = Value.bool b from rv)
          | tup _ _ => simp [Pt.doc] at d
          | @lst b vs ts hb rb =>
            cases (show Value.ref a = Value.ref b from rv)
            have : vs = [] := by
              rcases ha with r | ⟨o, r⟩ <;> rcases hb with r' | ⟨o', r'⟩ <;> rw [r] at r' <;> cases r' <;> rfl
            subst this
            cases rb
            simp [Pt.eqP, Pt.eqPL]
          | @dct b kvs ks ts hb hk rb =>
            cases (show Value.ref a = Value.ref b from rv)
            rcases ha with r | ⟨o, r⟩ <;> rcases hb with r' | ⟨o', r'⟩ <;> rw [r] at r' <;> cases r'
      | emp =>
        cases hx with
        | @dct a kvs0 _ _ ha hka ra =>
          cases (show u = Value.ref a from ru)
          have k0 : kvs0 = [] := by
            cases kvs0 with
            | nil => rfl
            | cons _ _ => simp at hka
          subst k0
          cases hy with
          | int j => obtain ⟨t2, e⟩ : ∃ t, Value.ref a = Value.int j t := rv; cases e
          | str z => obtain ⟨t2, e⟩ : ∃ t, Value.ref a = Value.str z t := rv; cases e
          | bl b => cases (show Value.ref a = Value.bool b from rv)
          | tup _ _ => simp [Pt.doc] at d
          | @lst b vs ts hb rb =>
            cases (show Value.ref a = Value.ref b from rv)
            rcases ha with r | ⟨o, r⟩ <;> rcases hb with r' | ⟨o', r'⟩ <;> rw [r] at r' <;> cases r'
          | @dct b kvs ks ts hb hk rb =>
            cases (show Value.ref a = Value.ref b from rv)
            have : kvs = [] := by
              rcases ha with r | ⟨o, r⟩ <;> rcases hb with r' | ⟨o', r'⟩ <;> rw [r] at r' <;> cases r' <;> rfl
            subst this
            have : ks = [] := by cases ks with | nil => rfl | cons _ _ => simp at hk
            subst this
            simp [Pt.eqP, Pt.eqPK]
    rw [tr]
    exact SeqAt.EqAt.same _
  · refine eqat_of e ?_ (sm0_rc I h d hx hy hu ru rv)
    cases h with
    | int i => cases hx; obtain ⟨t1, rfl⟩ : ∃ t, u = Value.int i t := ru; exact .inl ⟨_, _, rfl⟩
    | str x => cases hx; obtain ⟨t1, rfl⟩ : ∃ t, u = Value.str x t := ru; exact .inr (.inl ⟨_, _, rfl⟩)
    | nil => cases hx with | @lst a _ _ _ _ => exact .inr (.inr ⟨a, ru⟩)
    | emp => cases hx with | @dct a _ _ _ _ _ _ => exact .inr (.inr ⟨a, ru⟩)
theorem sm_rc (I : Inv X pins σ H s) {ps : List Pt} {t : Pt} (h : ∀ x ∈ ps, Sm0 x) (d : t.doc) {a : Addr} {y : V} (hx : Val H (.ref a) (.lst ps)) (hy : Val H y t) {A : Around} {v : Value} (hu : A.units + 2 < cLine) (rv : RelV y v) : SeqAt.RcAt A s (.ref a) v (Pt.eqP (.lst ps) t) := by
  cases hx with
  | @lst _ vs0 _ ha ra =>
    obtain ⟨its0, r0, p0, _⟩ := I.list (.inl ha)
    have e0 : its0.toArray.size = ps.length := by rw [List.size_toArray, ← r0.length, ra.length]
    cases hy with
    | int j => obtain ⟨t2, rfl⟩ : ∃ t, v = Value.int j t := rv; simp only [Pt.eqP]; exact SeqAt.RcAt.list_int j t2 p0.isList (by omega)
    | str z => obtain ⟨t2, rfl⟩ : ∃ t, v = Value.str z t := rv; simp only [Pt.eqP]; exact SeqAt.RcAt.list_str z t2 p0.isList (by omega)
    | bl b => simp [Pt.doc] at d
    | tup _ _ => simp [Pt.doc] at d
    | @lst b vs ts hb rb =>
      cases (show v = Value.ref b from rv)
      obtain ⟨its, r1, p1, _⟩ := I.list (.inl hb)
      have e1 : its.toArray.size = ts.length := by rw [List.size_toArray, ← r1.length, rb.length]
      simp only [Pt.eqP]
      simp only [Pt.doc] at d
      by_cases l : ps.length = ts.length
      · have key := SeqAt.RcAt.lists (A := A) (e := pairE ps ts) p0.isList p1.isList (by rw [e0, e1, l]) (by omega) (fun j h1 h2 => by
          obtain ⟨v1, t1, g1, g2, hv1, rv1⟩ := ra.at r0 h1
          obtain ⟨v2, t2, g3, g4, hv2, rv2⟩ := rb.at r1 h2
          have e : pairE ps ts j = Pt.eqP t1 t2 := by simp [pairE, g2, g4]
          rw [e]
          exact sm0_eq I (h t1 (List.mem_of_getElem? g2)) (Pt.docL_mem d t2 (List.mem_of_getElem? g4)) hv1 hv2 (by show A.units + 1 + 1 < cLine; omega) rv1 rv2)
        rw [e0, eqPL_range l] at key
        exact key
      · rw [eqPL_len l]
        exact SeqAt.RcAt.lists_lengths p0.isList p1.isList (by rw [e0, e1]; simpa using l) (by omega)
    | @dct b kvs ks ts hb hk rb =>
      cases (show v = Value.ref b from rv)
      obtain ⟨_, dd, es, n, sl, od, _⟩ := dk_obj I hb
      simp only [Pt.eqP]
      exact rc_list_dict p0.isList od (by omega)
theorem keq_hits (I : Inv X pins σ H s) {A : Around} (hu : A.units + 1 < cLine) {kws : List (Key × V)} {ls : List Str} {ts : List Pt} {vs' : List (Key × Value)} (hkb : kws.map (·.1) = ls.map Sum.inr) (rb : ValL H (kws.map (·.2)) ts) (rel' : KV kws vs') (d : Pt.docL ts) :
    ∀ {kvs : List (Key × V)} {ks : List Str} {ps : List Pt} {vs : List (Key × Value)}, kvs.map (·.1) = ks.map Sum.inr → ValL H (kvs.map (·.2)) ps → KV kvs vs → (∀ x ∈ ps, Sm0 x) → PySem.W.KeqHits A s vs' vs (Pt.eqPK ks ps ls ts)
  | [], ks, ps, vs, hk, r, rel, _ => by
    cases r
    cases rel
    have : ks = [] := by cases ks with | nil => rfl | cons _ _ => simp at hk
    subst this
    simp only [Pt.eqPK]
    exact .nil
  | (k0, v0) :: kvs, ks, ps, vs, hk, r, rel, sm => by
    cases ks with
    | nil => simp at hk
    | cons k ks =>
      simp only [List.map_cons, List.cons.injEq] at hk
      obtain ⟨e, hk⟩ := hk
      subst e
      cases r with
      | @cons _ t _ ps h0 r =>
        unfold KV at rel
        cases rel with
        | @cons _ q _ vs hq rl =>
          obtain ⟨kq, uq⟩ := q
          obtain ⟨e1, ru⟩ := hq
          simp only at e1 ru
          subst e1
          have ih := keq_hits I hu hkb rb rel' d hk r rl fun x hx => sm x (List.mem_cons_of_mem _ hx)
          simp only [Pt.eqPK]
          have rv := rel'.val (Sum.inr k)
          rcases Val.at_name hkb rb k with ⟨w1, t1, g1, g2, hv⟩ | ⟨g1, g2⟩
          · rw [g1] at rv
            rw [g2]
            cases hv2 : valueAt vs' (Sum.inr k) with
            | none => rw [hv2] at rv; exact rv.elim
            | some u2 =>
              rw [hv2] at rv
              exact .hit hv2 (sm0_eq I (sm t List.mem_cons_self) (Pt.docL_mem d t1 (Pt.look_mem g2).2) h0 hv hu ru rv) ih
          · rw [g1] at rv
            rw [g2]
            cases hv2 : valueAt vs' (Sum.inr k) with
            | some u2 => rw [hv2] at rv; exact rv.elim
            | none => simp only [Bool.false_and]; exact .miss hv2
inductive rEqD (x y : V) (H : Hp) (Q : VK) : Prop
  | mk (p t : Pt) (hx : Val H x p) (hy : Val H y t) (sm : Sm p) (d : t.doc) (q : Q (.bl (Pt.eqP p t)) H) : rEqD x y H Q
theorem op_eqD (hu : X.A.units + 64 < cLine) : OpR X (compareOp .Eq) rEqD := by
  intro pins s σ H x y v u Q I rx ry h
  obtain ⟨p, t, hx, hy, sm, d, q⟩ := h
  have fin : EP X pins σ Q (.bool (Pt.eqP p t)) s := ⟨.bl _, H, I, rfl, q⟩
  cases sm with
  | one h => exact sm0_rc I h d hx hy (A := X.A) (by omega) rx ry _ _ _ _ fin
  | row h =>
    cases hx with
    | @lst a _ _ ha ra =>
      cases (show v = Value.ref a from rx)
      exact sm_rc I h d (.lst ha ra) hy (A := X.A) (by omega) ry _ _ _ _ fin
  | @tab ks ps h =>
    cases hx with
    | @dct a kvs _ _ ha hka ra =>
      cases (show v = Value.ref a from rx)
      cases hy with
      | int j => obtain ⟨t2, rfl⟩ : ∃ t, u = Value.int j t := ry; obtain ⟨_, dd, es, n, sl, od, _⟩ := dk_obj I ha; simp only [Pt.eqP] at fin; exact rc_dict_int j t2 od (A := X.A) (by omega) _ _ _ _ fin
      | str z => obtain ⟨t2, rfl⟩ : ∃ t, u = Value.str z t := ry; obtain ⟨_, dd, es, n, sl, od, _⟩ := dk_obj I ha; simp only [Pt.eqP] at fin; exact rc_dict_str z t2 od (A := X.A) (by omega) _ _ _ _ fin
      | bl b => simp [Pt.doc] at d
      | tup _ _ => simp [Pt.doc] at d
      | @lst b vs ts hb rb =>
        cases (show u = Value.ref b from ry)
        obtain ⟨_, dd, es, n, sl, od, _⟩ := dk_obj I ha
        obtain ⟨its, r1, p1, _⟩ := I.list (.inl hb)
        simp only [Pt.eqP] at fin
        exact rc_dict_list p1.isList od (A := X.A) (by omega) _ _ _ _ fin
      | @dct b kws ls ts hb hkb rb =>
        cases (show u = Value.ref b from ry)
        simp only [Pt.doc] at d
        obtain ⟨z, hm, vs, rel, dd⟩ := dk_rd I.hok ha
        obtain ⟨z', hm', vs', rel', dd'⟩ := dk_rd I.hok hb
        have l1 : vs.length = ks.length := by
          rw [← rel.length]
          have := congrArg List.length hka
          simpa using this
        have l2 : vs'.length = ls.length := by
          rw [← rel'.length]
          have := congrArg List.length hkb
          simpa using this
        refine PySem.W.keq_eq (knd := mixKind X.prog X.w) hm hm' dd dd' (by omega) (fun _ => keq_hits I (A := X.A.in1) (by show X.A.units + 1 + 1 < cLine; omega) hkb rb rel' d.2.2.2.2 hka ra rel h) ?_
        rw [l1, l2]
        simp only [Pt.eqP] at fin
        exact fin
end
end L2

set_option Elab.async false
set_option linter.all false
set_option maxRecDepth 100000
set_option maxHeartbeats 4000000
namespace L2
open PySem PySem.Spec PyProof.Rows
def lk {α : Type} (ks : List Str) (xs : List α) (k : Str) : Option α := (ks.zip xs).lookup k
theorem lk_cons {α : Type} {y k : Str} {r : List Str} {z : α} {zs : List α} : lk (y :: r) (z :: zs) k = if k = y then some z else lk r zs k := by
  unfold lk
  rw [List.zip_cons_cons, List.lookup_cons]
  by_cases e : k = y
  · subst e; simp
  · have : (k == y) = false := by simpa using e
    rw [this, if_neg e]
theorem lk_mem {α : Type} {ks : List Str} {xs : List α} {k : Str} {x : α} (h : lk ks xs k = some x) : k ∈ ks ∧ x ∈ xs := by
  induction ks generalizing xs with
  | nil => simp [lk] at h
  | cons y r ih =>
    cases xs with
    | nil => simp [lk] at h
    | cons z zs =>
      rw [lk_cons] at h
      by_cases e : k = y
      · rw [if_pos e] at h
        cases h
        exact ⟨by rw [e]; exact List.mem_cons_self, List.mem_cons_self⟩
      · rw [if_neg e] at h
        have := ih h
        exact ⟨List.mem_cons_of_mem _ this.1, List.mem_cons_of_mem _ this.2⟩
theorem lk_some {α : Type} {ks : List Str} {xs : List α} (l : ks.length = xs.length) {k : Str} (hk : k ∈ ks) : ∃ x, lk ks xs k = some x := by
  induction ks generalizing xs with
  | nil => cases hk
  | cons y r ih =>
    cases xs with
    | nil => simp at l
    | cons z zs =>
      rw [lk_cons]
      by_cases e : k = y
      · rw [if_pos e]; exact ⟨z, rfl⟩
      · rw [if_neg e]
        exact ih (by simpa using l) ((List.mem_cons.mp hk).resolve_left e)
def pk {α : Type} (f : α → Pt → Bool) : Option α → Option Pt → Bool
  | some x, some y => f x y
  | _, _ => false
def allK {α : Type} (f : α → Pt → Bool) : List Str → List α → List Str → List Pt → Bool
  | k :: ks, x :: xs, ls, ys => (match lk ls ys k with | some y => f x y | none => false) && allK f ks xs ls ys
  | _, _, _, _ => true
theorem all_perm {α : Type} {a b : List α} (p : a.Perm b) (f : α → Bool) : a.all f = b.all f := by
  rw [Bool.eq_iff_iff, List.all_eq_true, List.all_eq_true]
  exact ⟨fun h x hx => h x (p.mem_iff.mpr hx), fun h x hx => h x (p.mem_iff.mp hx)⟩
theorem allK_eq {α : Type} (f : α → Pt → Bool) {ls : List Str} {ys : List Pt} : ∀ {ks : List Str} {xs : List α}, ks.length = xs.length → ks.Nodup → allK f ks xs ls ys = ks.all fun k => pk f (lk ks xs k) (lk ls ys k)
  | [], [], _, _ => by simp [allK]
  | [], _ :: _, h, _ => by simp at h
  | _ :: _, [], h, _ => by simp at h
  | k :: ks, x :: xs, l, nd => by
    obtain ⟨n1, n2⟩ := List.nodup_cons.mp nd
    rw [List.all_cons, lk_cons, if_pos rfl]
    simp only [allK]
    rw [allK_eq f (ks := ks) (xs := xs) (by simpa using l) n2]
    congr 1
    · cases lk ls ys k <;> rfl
    · rw [Bool.eq_iff_iff, List.all_eq_true, List.all_eq_true]
      have e : ∀ y ∈ ks, lk (k :: ks) (x :: xs) y = lk ks xs y := fun y hy => by
        rw [lk_cons, if_neg (fun z => n1 (by rw [← z]; exact hy))]
      exact ⟨fun h y hy => by rw [e y hy]; exact h y hy, fun h y hy => by have := h y hy; rwa [e y hy] at this⟩
theorem allK_zip {α : Type} (f : α → Pt → Bool) {ls ks ss : List Str} {ys bs : List Pt} {xs as : List α} (l : ks.length = xs.length) (nd : ks.Nodup) (pm : ss.Perm ks) (e1 : ss.map (lk ks xs) = as.map some) (e2 : ss.map (lk ls ys) = bs.map some) :
    allK f ks xs ls ys = (as.zip bs).all fun p => f p.1 p.2 := by
  rw [allK_eq f l nd, ← all_perm pm]
  clear pm nd l
  induction ss generalizing as bs with
  | nil =>
    have : as = [] := by cases as with | nil => rfl | cons _ _ => simp at e1
    subst this
    simp
  | cons k r ih =>
    cases as with
    | nil => simp at e1
    | cons a as =>
      cases bs with
      | nil => simp at e2
      | cons b bs =>
        simp only [List.map_cons, List.cons.injEq] at e1 e2
        rw [List.all_cons, List.zip_cons_cons, List.all_cons, ih e1.2 e2.2, e1.1, e2.1]
        rfl
theorem nodup_perm : ∀ {ks ls : List Str}, ks.Nodup → ls.Nodup → ks.length = ls.length → (∀ k ∈ ks, k ∈ ls) → ks.Perm ls
  | [], ls, _, _, l, _ => by
    have : ls = [] := by cases ls with | nil => rfl | cons _ _ => simp at l
    subst this
    exact .refl _
  | k :: ks, ls, n1, n2, l, h => by
    obtain ⟨a, b, e⟩ := List.append_of_mem (h k List.mem_cons_self)
    subst e
    have pm : (a ++ k :: b).Perm (k :: (a ++ b)) := List.perm_middle
    obtain ⟨m1, m2⟩ := List.nodup_cons.mp n1
    have n3 : (k :: (a ++ b)).Nodup := pm.nodup_iff.mp n2
    obtain ⟨m3, m4⟩ := List.nodup_cons.mp n3
    refine (List.Perm.cons k (nodup_perm m2 m4 (by simp at l ⊢; omega) fun x hx => ?_)).trans pm.symm
    have := pm.mem_iff.mp (h x (List.mem_cons_of_mem _ hx))
    exact (List.mem_cons.mp this).resolve_left fun z => m1 (by rw [← z]; exact hx)
theorem eqPK_allK {ls : List Str} {ys : List Pt} : ∀ {ks : List Str} {xs : List Pt}, Pt.eqPK ks xs ls ys = allK Pt.eqP ks xs ls ys
  | [], xs => by simp [Pt.eqPK, allK]
  | _ :: _, [] => by simp [Pt.eqPK, allK]
  | k :: ks, x :: xs => by simp only [Pt.eqPK, allK]; rw [eqPK_allK]; rfl
theorem eqPL_zip : ∀ {xs ys : List Pt}, xs.length = ys.length → Pt.eqPL xs ys = (xs.zip ys).all fun p => Pt.eqP p.1 p.2
  | [], [], _ => by simp [Pt.eqPL]
  | [], _ :: _, h => by simp at h
  | _ :: _, [], h => by simp at h
  | x :: xs, y :: ys, h => by simp only [Pt.eqPL, List.zip_cons_cons, List.all_cons]; rw [eqPL_zip (by simpa using h)]
def Level : Pt → Pt → Prop
  | .int i, .int j => i = j
  | .str x, .str y => x = y
  | .lst xs, .lst ys => xs.length = ys.length
  | .dct ks _, .dct ls _ => ks.Perm ls
  | _, _ => False
theorem not_level {s t : Pt} (ds : s.doc) (dt : t.doc) (h : ¬ Level s t) : Pt.eqP s t = false := by
  cases s with
  | int i => cases t <;> simp_all [Level, Pt.eqP]
  | str x => cases t <;> simp_all [Level, Pt.eqP]
  | bl b => simp [Pt.doc] at ds
  | tup xs => simp [Pt.doc] at ds
  | lst xs =>
    cases t with
    | lst ys => simp only [Pt.eqP]; exact eqPL_len h
    | _ => simp [Pt.eqP]
  | dct ks xs =>
    cases t with
    | dct ls ys =>
      simp only [Pt.doc] at ds dt
      rw [Bool.eq_false_iff]
      intro e
      simp only [Pt.eqP, Bool.and_eq_true, beq_iff_eq] at e
      obtain ⟨e1, e2⟩ := e
      rw [eqPK_allK, allK_eq _ ds.1 ds.2.1, List.all_eq_true] at e2
      refine h (nodup_perm ds.2.1 dt.2.1 e1 fun k hk => ?_)
      have := e2 k hk
      cases hl : lk ls ys k with
      | none =>
        rw [hl] at this
        cases hx : lk ks xs k with
        | none => rw [hx] at this; cases this
        | some x => rw [hx] at this; cases this
      | some y => exact (lk_mem hl).1
    | _ => simp [Pt.eqP]
def Steps : Pt → List V → Prop
  | .lst xs, l => l = (List.range xs.length).map fun (i : Nat) => V.int (i : Int)
  | .dct ks _, l => ∃ ss : List Str, l = ss.map V.str ∧ ss.Perm ks ∧ sortedS ss = true
  | _, l => l = []
def Holdy : Pt → Prop
  | .int _ => True
  | .str _ => True
  | .lst xs => xs.length ≤ 900
  | .dct ks xs => ks.length = xs.length ∧ ks.length < 64
  | _ => False
def Kids : Pt → List Pt → Prop
  | .lst xs, ts => ts = xs
  | .dct ks xs, ts => ∃ ss : List Str, ss.Perm ks ∧ sortedS ss = true ∧ ss.map (lk ks xs) = ts.map some
  | _, ts => ts = []
theorem doc_kids {t : Pt} (d : t.doc) {ts : List Pt} (h : Kids t ts) : Pt.docL ts := by
  cases t with
  | lst xs => simp only [Pt.doc] at d; rw [show ts = xs from h]; exact d
  | dct ks xs =>
    simp only [Pt.doc] at d
    obtain ⟨s1, p1, o1, e1⟩ := h
    refine Pt.docL_of fun x hx => ?_
    have : some x ∈ s1.map (lk ks xs) := by rw [e1]; exact List.mem_map_of_mem hx
    obtain ⟨k, _, e⟩ := List.mem_map.mp this
    exact Pt.docL_mem d.2.2.2.2 x (lk_mem e).2
  | _ => rw [show ts = [] from h]; trivial
theorem level_kids {s t : Pt} (ds : s.doc) (dt : t.doc) (h : Level s t) {as bs : List Pt} (ka : Kids s as) (kb : Kids t bs) : as.length = bs.length ∧ Pt.eqP s t = (as.zip bs).all fun p => Pt.eqP p.1 p.2 := by
  cases s with
  | int i =>
    cases t with
    | int j => rw [show as = [] from ka, show bs = [] from kb]; exact ⟨rfl, by simpa [Pt.eqP, Level] using h⟩
    | _ => exact h.elim
  | str x =>
    cases t with
    | str j => rw [show as = [] from ka, show bs = [] from kb]; exact ⟨rfl, by simpa [Pt.eqP, Level] using h⟩
    | _ => exact h.elim
  | bl b => simp [Pt.doc] at ds
  | tup xs => simp [Pt.doc] at ds
  | lst xs =>
    cases t with
    | lst ys => rw [show as = xs from ka, show bs = ys from kb]; exact ⟨h, by simp only [Pt.eqP]; exact eqPL_zip h⟩
    | _ => exact h.elim
  | dct ks xs =>
    cases t with
    | dct ls ys =>
      simp only [Pt.doc] at ds dt
      have h : ks.Perm ls := h
      obtain ⟨s1, p1, o1, e1⟩ := ka
      obtain ⟨s2, p2, o2, e2⟩ := kb
      have := sortedS_one o1 o2 ((p1.trans h).trans p2.symm)
      subst this
      refine ⟨?_, ?_⟩
      · have l1 := congrArg List.length e1
        have l2 := congrArg List.length e2
        simp only [List.length_map] at l1 l2
        omega
      · have hl : ks.length = ls.length := h.length_eq
        simp only [Pt.eqP, hl, beq_self_eq_true, Bool.true_and]
        rw [eqPK_allK]
        exact allK_zip _ ds.1 ds.2.1 p1 e1 e2
    | _ => exact h.elim
theorem kids_size {t : Pt} {ts : List Pt} (d : t.doc) (h : Kids t ts) : Pt.sizeL ts < t.size := by
  cases t with
  | lst xs => rw [show ts = xs from h]; simp only [Pt.size]; omega
  | dct ks xs =>
    simp only [Pt.doc] at d
    obtain ⟨s1, p1, o1, e1⟩ := h
    have key : ∀ {ks : List Str} {xs : List Pt}, ks.length = xs.length → ks.Nodup → ks.map (lk ks xs) = xs.map some := by
      intro ks
      induction ks with
      | nil => intro xs l _; cases xs with | nil => rfl | cons _ _ => simp at l
      | cons k r ih =>
        intro xs l nd
        cases xs with
        | nil => simp at l
        | cons x xs =>
          obtain ⟨n1, n2⟩ := List.nodup_cons.mp nd
          rw [List.map_cons, List.map_cons, lk_cons, if_pos rfl, ← ih (by simpa using l) n2]
          congr 1
          exact List.map_congr_left fun y hy => by rw [lk_cons, if_neg (fun z => n1 (by rw [← z]; exact hy))]
    have pp : (ts.map some).Perm (xs.map some) := by rw [← e1, ← key d.1 d.2.1]; exact p1.map _
    have p2 := pp.filterMap id
    have p3 : ts.Perm xs := by simpa using p2
    have : Pt.sizeL ts = Pt.sizeL xs := by
      clear e1 pp p2 d o1 p1 key s1
      induction p3 with
      | nil => rfl
      | cons x _ ih => simp only [Pt.sizeL, ih]
      | swap x y l => simp only [Pt.sizeL]; omega
      | trans _ _ i1 i2 => exact i1.trans i2
    simp only [Pt.size, this]
    omega
  | tup xs => simp [Pt.doc] at d
  | _ => rw [show ts = [] from h]; simp [Pt.sizeL, Pt.size]
end L2

set_option Elab.async false
set_option linter.all false
set_option maxRecDepth 100000
set_option maxHeartbeats 4000000
namespace L2
open PySem PySem.Spec PyProof.Rows
def GetV (H : Hp) (v s e : V) : Prop := (∃ a xs j, v = .ref a ∧ Rd H a (.lst xs) ∧ s = .int ((j : Nat) : Int) ∧ xs[j]? = some e) ∨ ∃ a kvs k, v = .ref a ∧ Rd H a (.dK kvs) ∧ s = .str k ∧ valV kvs (Sum.inr k) = some e
theorem dct_kids {H : Hp} {kvs : List (Key × V)} {ks : List Str} {ts : List Pt} (hk : kvs.map (·.1) = ks.map Sum.inr) (r : ValL H (kvs.map (·.2)) ts) (l : ks.length = ts.length) : ∀ {ss : List Str}, (∀ k ∈ ss, k ∈ ks) →
    ∃ (es : List V) (us : List Pt), ValL H es us ∧ ss.map (lk ks ts) = us.map some ∧ es.length = ss.length ∧ ∀ (i : Nat) e, es[i]? = some e → ∃ k, ss[i]? = some k ∧ valV kvs (Sum.inr k) = some e
  | [], _ => ⟨[], [], .nil, rfl, rfl, fun i e h => by simp at h⟩
  | k :: ss, h => by
    obtain ⟨es, us, h1, h2, h3, h4⟩ := dct_kids hk r l (ss := ss) fun x hx => h x (List.mem_cons_of_mem _ hx)
    rcases Val.at_name hk r k with ⟨v, t, g1, g2, hv⟩ | ⟨_, g2⟩
    · refine ⟨v :: es, t :: us, .cons hv h1, by rw [List.map_cons, List.map_cons, h2]; congr 1, by rw [List.length_cons, List.length_cons, h3], fun i e he => ?_⟩
      cases i with
      | zero => simp at he; subst he; exact ⟨k, by simp, g1⟩
      | succ i =>
        obtain ⟨k', a1, a2⟩ := h4 i e (by simpa using he)
        exact ⟨k', by simpa using a1, a2⟩
    · obtain ⟨x, hx⟩ := Pt.look_some l (h k List.mem_cons_self)
      rw [hx] at g2
      cases g2
theorem Val.kids {H : Hp} {v : V} {t : Pt} {l : List V} (hv : Val H v t) (hold : Holdy t) (st : Steps t l) : ∃ (es : List V) (us : List Pt), ValL H es us ∧ Kids t us ∧ es.length = l.length ∧ ∀ (i : Nat) e, es[i]? = some e → ∃ s, l[i]? = some s ∧ GetV H v s e := by
  cases hv with
  | int i => rw [show l = [] from st]; exact ⟨[], [], .nil, rfl, rfl, fun i e h => by simp at h⟩
  | str i => rw [show l = [] from st]; exact ⟨[], [], .nil, rfl, rfl, fun i e h => by simp at h⟩
  | bl b => exact hold.elim
  | tup _ _ => exact hold.elim
  | @lst a vs ts h r =>
    have e := r.length
    rw [show l = _ from st]
    refine ⟨vs, ts, r, rfl, by simp [e], fun i x hx => ⟨.int (i : Int), ?_, .inl ⟨a, vs, i, rfl, h, rfl, hx⟩⟩⟩
    have hi := (List.getElem?_eq_some_iff.mp hx).1
    rw [List.getElem?_map, List.getElem?_range (by omega)]
    rfl
  | @dct a kvs ks ts h hk r =>
    obtain ⟨ss, rfl, pm, so⟩ := st
    obtain ⟨es, us, h1, h2, h3, h4⟩ := dct_kids hk r hold.1 (ss := ss) fun k hk => pm.mem_iff.mp hk
    refine ⟨es, us, h1, ⟨ss, pm, so, h2⟩, by rw [List.length_map]; exact h3, fun i e he => ?_⟩
    obtain ⟨k, k1, k2⟩ := h4 i e he
    exact ⟨.str k, by rw [List.getElem?_map, k1]; rfl, .inr ⟨a, kvs, k, rfl, h, rfl, k2⟩⟩
theorem doc_holdy {t : Pt} (d : t.doc) (z : t.size ≤ 900) : Holdy t := by
  cases t with
  | int i => trivial
  | str x => trivial
  | bl b => simp [Pt.doc] at d
  | tup xs => simp [Pt.doc] at d
  | lst xs => simp only [Pt.size] at z; have := Pt.lenL xs; exact show xs.length ≤ 900 by omega
  | dct ks xs => simp only [Pt.doc] at d; exact ⟨d.1, d.2.2.2.1⟩
def Pt.tyS : Pt → String
  | .int _ => "int"
  | .str _ => "str"
  | .bl _ => "bool"
  | .lst _ => "list"
  | .tup _ => "tuple"
  | .dct _ _ => "dict"
theorem Val.ty {H : Hp} {v : V} {t : Pt} (h : Val H v t) : TyN H v t.tyS := by
  cases h with
  | int i => exact .int i
  | str x => exact .str x
  | bl b => exact .bl b
  | lst h _ => exact .lst h
  | tup h _ => exact .tup h
  | dct h _ _ => exact .dK h
def spStepsV : Sp := fun vs H Q _ => ∃ (v : V) (t : Pt), vs = [v] ∧ Val H v t ∧ Holdy t ∧ ∀ (p : Addr) (l : List V) (H' : Hp), Same H H' → H p = none → H' p = some (.lst l) → Steps t l → Q (.ref p) H'
def spInnerV : Sp := fun vs H Q _ => ∃ (G : Hp) (v : V) (t : Pt), vs = [v] ∧ Same G H ∧ Val G v t ∧ Holdy t ∧ ∀ (p : Addr) (es : List V) (us : List Pt) (H' : Hp), Same H H' → H p = none → H' p = some (.lst es) → ValL G es us → Kids t us → Q (.ref p) H'
def spLevel : Sp := fun vs H Q _ => ∃ (x y : V) (s t : Pt), vs = [x, y] ∧ Val H x s ∧ Val H y t ∧ s.doc ∧ t.doc ∧ s.size ≤ 900 ∧ t.size ≤ 900 ∧ ∀ (b : Bool) (H' : Hp), Same H H' → (b = true ↔ Level s t) → Q (.bl b) H'
def spEqual : Sp := fun vs H Q _ => ∃ (x y : V) (s t : Pt), vs = [x, y] ∧ Val H x s ∧ Val H y t ∧ s.doc ∧ t.doc ∧ s.size ≤ 900 ∧ t.size ≤ 900 ∧ ∀ H', Same H H' → Q (.bl (Pt.eqP s t)) H'
inductive PairsAt (G H : Hp) : List Addr → List (Pt × Pt) → Prop
  | nil : PairsAt G H [] []
  | cons {t : Addr} {u v : V} {p : Pt × Pt} {ts : List Addr} {ps : List (Pt × Pt)} (h : H t = some (.tup [u, v])) (hu : Val G u p.1) (hv : Val G v p.2) (r : PairsAt G H ts ps) : PairsAt G H (t :: ts) (p :: ps)
theorem PairsAt.up {G H H' : Hp} (s : ∀ t u v, H t = some (.tup [u, v]) → H' t = some (.tup [u, v])) : ∀ {ts : List Addr} {ps : List (Pt × Pt)}, PairsAt G H ts ps → PairsAt G H' ts ps
  | _, _, .nil => .nil
  | _, _, .cons h hu hv r => .cons (s _ _ _ h) hu hv (r.up s)
theorem PairsAt.length {G H : Hp} : ∀ {ts : List Addr} {ps : List (Pt × Pt)}, PairsAt G H ts ps → ts.length = ps.length
  | _, _, .nil => rfl
  | _, _, .cons _ _ _ r => by rw [List.length_cons, List.length_cons, r.length]
theorem PairsAt.append {G H : Hp} : ∀ {ts : List Addr} {ps : List (Pt × Pt)}, PairsAt G H ts ps → ∀ {us : List Addr} {qs : List (Pt × Pt)}, PairsAt G H us qs → PairsAt G H (ts ++ us) (ps ++ qs)
  | _, _, .nil, _, _, s => s
  | _, _, .cons h hu hv r, _, _, s => .cons h hu hv (r.append s)
theorem PairsAt.snoc {G H : Hp} : ∀ {ts : List Addr} {ps : List (Pt × Pt)}, PairsAt G H ts ps → ts ≠ [] → ∃ us t qs p u v, ts = us ++ [t] ∧ ps = qs ++ [p] ∧ PairsAt G H us qs ∧ H t = some (.tup [u, v]) ∧ Val G u p.1 ∧ Val G v p.2
  | _, _, .nil, h => absurd rfl h
  | _, _, .cons (t := t) (p := p) h hu hv .nil, _ => ⟨[], t, [], p, _, _, rfl, rfl, .nil, h, hu, hv⟩
  | _, _, .cons (t := t) (p := p) h hu hv (.cons h' hu' hv' r), _ => by
    obtain ⟨us, t1, qs, p1, u, v, e1, e2, a, b, c, d⟩ := PairsAt.snoc (.cons h' hu' hv' r) (by simp)
    exact ⟨t :: us, t1, p :: qs, p1, u, v, by rw [e1]; rfl, by rw [e2]; rfl, .cons h hu hv a, b, c, d⟩
theorem PairsAt.zip {G H : Hp} : ∀ {ts : List Addr} {xs ys : List V} {as bs : List Pt}, ValL G xs as → ValL G ys bs → ts.length = xs.length → xs.length = ys.length → (∀ (j : Nat) t x y, ts[j]? = some t → xs[j]? = some x → ys[j]? = some y → H t = some (.tup [x, y])) → PairsAt G H ts (as.zip bs)
  | [], _, _, _, _, .nil, .nil, _, _, _ => .nil
  | _ :: _, _, _, _, _, .nil, _, l, _, _ => by simp at l
  | [], _, _, _, _, .cons _ _, _, l, _, _ => by simp at l
  | _, _, _, _, _, .cons _ _, .nil, _, l, _ => by simp at l
  | t :: ts, _, _, _, _, .cons h r, .cons h' r', l, l', k => .cons (p := (_, _)) (k 0 t _ _ (by simp) (by simp) (by simp)) h h' (PairsAt.zip r r' (by simpa using l) (by simpa using l') fun j t x y h1 h2 h3 => k (j + 1) t x y (by simpa using h1) (by simpa using h2) (by simpa using h3))
def sumP : List (Pt × Pt) → Nat
  | [] => 0
  | p :: r => p.1.size + sumP r
theorem sumP_append (a b : List (Pt × Pt)) : sumP (a ++ b) = sumP a + sumP b := by
  induction a with
  | nil => simp [sumP]
  | cons p r ih => simp only [List.cons_append, sumP, ih]; omega
theorem sumP_len : ∀ a : List (Pt × Pt), a.length ≤ sumP a
  | [] => Nat.le_refl _
  | p :: r => by have := sumP_len r; have := Pt.size_pos p.1; simp only [List.length_cons, sumP]; omega
theorem sumP_zip : ∀ {as bs : List Pt}, as.length = bs.length → sumP (as.zip bs) = Pt.sizeL as
  | [], [], _ => rfl
  | [], _ :: _, h => by simp at h
  | _ :: _, [], h => by simp at h
  | a :: as, b :: bs, h => by simp only [List.zip_cons_cons, sumP, Pt.sizeL]; rw [sumP_zip (by simpa using h)]
theorem steps_eqS {a b : List Str} (h : eqTs (a.map V.str) (b.map V.str) = true) : a = b := by
  unfold eqTs at h
  simp only [Bool.and_eq_true, beq_iff_eq, List.length_map] at h
  obtain ⟨h1, h2⟩ := h
  refine List.ext_getElem h2 fun i h3 h4 => ?_
  have := (List.all_eq_true.mp h1) i (List.mem_range.mpr (by omega))
  rw [List.getD_eq_getElem?_getD, List.getD_eq_getElem?_getD, List.getElem?_map, List.getElem?_map, List.getElem?_eq_getElem h3, List.getElem?_eq_getElem h4] at this
  simpa [eqV] using this
theorem eqTs_strs (a b : List Str) : eqTs (a.map V.str) (b.map V.str) = true ↔ a = b := by
  constructor
  · intro h
    have := steps_eqS h
    exact this
  · intro h
    subst h
    exact eqTs_self fun z hz => by obtain ⟨x, _, rfl⟩ := List.mem_map.mp hz; rfl
end L2

set_option Elab.async false
set_option linter.all false
set_option maxRecDepth 100000
set_option maxHeartbeats 4000000
namespace L2
open PySem PySem.Spec PyProof.Rows
section
variable {X : Cx}
inductive rAny (K : PySem.W.Frag) (xs : List V) (H : Hp) (Q : VK) : Prop
  | mk (p : Addr) (bs : List Bool) (h0_ : xs = [.ref p]) (h1_ : SqL K H p (bs.map V.bl)) (h2_ : Q (.bl (bs.any id)) H) : rAny K xs H Q
theorem call_any (hc : X.calm = true) : CallR X (.builtin "any") (rAny X.K) := by
  intro pins s σ H xs us Q I r h
  obtain ⟨p, bs, rfl, hp, q⟩ := h
  obtain ⟨u, rfl, ru⟩ := vals1 r
  cases ru
  obtain ⟨its, rv, pl, hz⟩ := I.list hp
  obtain ⟨ob, hob, hob'⟩ := id pl.isList
  have hlt : p < s.heap.objs.size := Heap.lt_size hob
  have hin : X.A.in1.handled = none := I.ok.hd hc
  have hlen : its.toArray.size = bs.length := by rw [List.size_toArray, ← rv.length, List.length_map]
  refine call_any_walk (wpAny_pyIter_list pl.isList ⟨s.heap.objs.size, _, _, _, _, _, fun i => bs.getD i true, rfl, Walks.list hin s.heap.objs.size p (Nat.ne_of_lt hlt) its.toArray, ⟨⟨_, Heap.get?_push_size _ rfl, rfl, rfl⟩, ⟨ob, Heap.get?_push_of_some _ hob, hob'⟩⟩, ?_, fun h' tk kept => ?_⟩)
  · intro i v s' Q' E' hv hq
    have hv : its[i]? = some v := by simpa using hv
    have hi : i < bs.length := by
      have := (List.getElem?_eq_some_iff.mp hv).1
      rw [← rv.length, List.length_map] at this
      exact this
    have e : (bs.map V.bl)[i]? = some (V.bl bs[i]) := by rw [List.getElem?_map, List.getElem?_eq_getElem hi]; rfl
    obtain ⟨u, hu, ru⟩ := rv.get e
    rw [hv] at hu
    cases hu
    cases ru
    have e2 : bs.getD i true = bs[i] := by rw [List.getD_eq_getElem?_getD, List.getElem?_eq_getElem hi]; rfl
    have hq : Q' (bs.getD i true) s' := hq
    rw [e2] at hq
    exact wpAny_truthy_bool hq
  · refine ⟨.bl (bs.any id), H, I.kept (t' := tk) fun b o e => kept b o (fun z => ?_) (Heap.get?_push_of_some _ e), ?_, q⟩
    · have e' : b = s.heap.objs.size := by simpa using z
      exact Nat.ne_of_lt (Heap.lt_size e) e'
    · show Value.bool _ = Value.bool _
      congr 1
      rw [hlen, Bool.eq_iff_iff, List.any_eq_true, List.any_eq_true]
      constructor
      · intro ⟨i, hi, h⟩
        have hi := List.mem_range.mp hi
        rw [List.getD_eq_getElem?_getD, List.getElem?_eq_getElem hi] at h
        exact ⟨_, List.getElem_mem hi, h⟩
      · intro ⟨b, hb, h⟩
        obtain ⟨i, hi, rfl⟩ := List.mem_iff_getElem.mp hb
        exact ⟨i, List.mem_range.mpr hi, by rw [List.getD_eq_getElem?_getD, List.getElem?_eq_getElem hi]; exact h⟩
end
inductive Ak where
  | any
  | just (d : Pt)
  | row (xs : List Ak) (m : Bool)
  | tab (ks : List Str) (xs : List Ak) (ls : List Str) (m : Bool)
namespace Ak
mutual
def pt : Ak → Pt
  | any => .tup [.str "any"]
  | just d => .tup [.str "just", d]
  | row xs m => .tup [.str "row", .lst (ptL xs), .bl m]
  | tab ks xs ls m => .tup [.str "table", .dct ks (ptL xs), .lst (ls.map Pt.str), .bl m]
def ptL : List Ak → List Pt
  | [] => []
  | x :: r => pt x :: ptL r
end
theorem ptL_map : ∀ xs : List Ak, ptL xs = xs.map pt
  | [] => rfl
  | x :: r => by simp only [ptL, List.map_cons, ptL_map r]
mutual
def size : Ak → Nat
  | any => 1
  | just _ => 1
  | row xs _ => 1 + sizeL xs
  | tab _ xs _ _ => 1 + sizeL xs
def sizeL : List Ak → Nat
  | [] => 0
  | x :: r => size x + sizeL r
end
mutual
def deep : Ak → Nat
  | any => 1
  | just _ => 1
  | row xs _ => 1 + deepL xs
  | tab _ xs _ _ => 1 + deepL xs
def deepL : List Ak → Nat
  | [] => 0
  | x :: r => max (deep x) (deepL r)
end
mutual
def ok : Ak → Prop
  | any => True
  | just d => Sm d ∧ d.doc ∧ d.size ≤ 10
  | row xs _ => okL xs
  | tab ks xs ls _ => ks.length = xs.length ∧ ks.Nodup ∧ (∀ k ∈ ks, nameB k = true) ∧ ks.length < 60 ∧ ls.length ≤ 100 ∧ (∀ l ∈ ls, l ∉ ks) ∧ okL xs
def okL : List Ak → Prop
  | [] => True
  | x :: r => ok x ∧ okL r
end
theorem size_pos (t : Ak) : 1 ≤ t.size := by cases t <;> simp only [size] <;> omega
theorem deep_pos (t : Ak) : 1 ≤ t.deep := by cases t <;> simp only [deep] <;> omega
theorem lenL : ∀ xs : List Ak, xs.length ≤ sizeL xs
  | [] => Nat.le_refl _
  | x :: r => by have := lenL r; have := size_pos x; simp only [List.length_cons, sizeL]; omega
theorem sizeL_mem : ∀ {xs : List Ak} {x : Ak}, x ∈ xs → x.size ≤ sizeL xs
  | y :: r, x, h => by
    simp only [sizeL]
    rcases List.mem_cons.mp h with rfl | h
    · omega
    · have := sizeL_mem h; omega
theorem deepL_mem : ∀ {xs : List Ak} {x : Ak}, x ∈ xs → x.deep ≤ deepL xs
  | y :: r, x, h => by
    simp only [deepL]
    rcases List.mem_cons.mp h with rfl | h
    · omega
    · have := deepL_mem h; omega
theorem okL_mem : ∀ {xs : List Ak}, okL xs → ∀ x ∈ xs, ok x
  | y :: r, h, x, hx => by
    simp only [okL] at h
    rcases List.mem_cons.mp hx with rfl | hx
    · exact h.1
    · exact okL_mem h.2 x hx
theorem okL_of : ∀ {xs : List Ak}, (∀ x ∈ xs, ok x) → okL xs
  | [], _ => trivial
  | x :: r, h => ⟨h x List.mem_cons_self, okL_of fun y hy => h y (List.mem_cons_of_mem _ hy)⟩
def cnt (c l : Nat) (m : Bool) : Bool := c == l || (m && decide (l < c))
def outB : Ak → Pt → Bool
  | any, _ => true
  | just d, t => Pt.eqP d t
  | row xs m, .lst ys => cnt ys.length xs.length m
  | tab ks _ ls m, .dct ns _ => ks.all (fun k => decide (k ∈ ns)) && !(ls.any fun k => decide (k ∈ ns)) && cnt ns.length ks.length m
  | _, _ => false
mutual
def lets : Ak → Pt → Bool
  | any, _ => true
  | just d, t => Pt.eqP d t
  | row xs m, .lst ys => cnt ys.length xs.length m && letsL xs ys
  | tab ks xs ls m, .dct ns ys => (ks.all (fun k => decide (k ∈ ns)) && !(ls.any fun k => decide (k ∈ ns)) && cnt ns.length ks.length m) && letsK ks xs ns ys
  | _, _ => false
def letsL : List Ak → List Pt → Bool
  | a :: as, y :: ys => lets a y && letsL as ys
  | _, _ => true
def letsK : List Str → List Ak → List Str → List Pt → Bool
  | k :: ks, x :: xs, ns, ys => (match lk ns ys k with | some y => lets x y | none => false) && letsK ks xs ns ys
  | _, _, _, _ => true
end
theorem letsK_allK {ns : List Str} {ys : List Pt} : ∀ {ks : List Str} {xs : List Ak}, letsK ks xs ns ys = allK lets ks xs ns ys
  | [], xs => by simp [letsK, allK]
  | _ :: _, [] => by simp [letsK, allK]
  | k :: ks, x :: xs => by simp only [letsK, allK]; rw [letsK_allK]; try (cases lk ns ys k <;> rfl)
theorem letsL_zip : ∀ {xs : List Ak} {ys : List Pt}, letsL xs ys = (xs.zip ys).all fun p => lets p.1 p.2
  | [], _ => by simp [letsL]
  | _ :: _, [] => by simp [letsL]
  | x :: xs, y :: ys => by simp only [letsL, List.zip_cons_cons, List.all_cons]; rw [letsL_zip]
theorem lets_out {a : Ak} {t : Pt} (h : outB a t = false) : lets a t = false := by
  cases a with
  | any => simp [outB] at h
  | just d => simpa [outB, lets] using h
  | row xs m => cases t <;> simp_all [outB, lets]
  | tab ks xs ls m =>
    cases t with
    | dct ns ys => simp only [outB] at h; simp only [lets]; rw [h, Bool.false_and]
    | _ => simp [lets]
def Kp : Ak → Pt → List (Ak × Pt) → Prop
  | row xs _, .lst ys, ps => ps = xs.zip ys
  | tab ks xs _ _, .dct ns ys, ps => ∃ (ss : List Str) (as : List Ak) (bs : List Pt), ss.Perm ks ∧ ss.map (lk ks xs) = as.map some ∧ ss.map (lk ns ys) = bs.map some ∧ ps = as.zip bs
  | _, _, ps => ps = []
theorem lets_kids {a : Ak} {t : Pt} {ps : List (Ak × Pt)} (o : a.ok) (h : outB a t = true) (k : Kp a t ps) : lets a t = ps.all fun p => lets p.1 p.2 := by
  cases a with
  | any => rw [show ps = [] from k]; simp [lets]
  | just d => rw [show ps = [] from k]; simpa [lets, outB] using h
  | row xs m =>
    cases t with
    | lst ys => rw [show ps = xs.zip ys from k]; simp only [outB] at h; simp only [lets]; rw [h, Bool.true_and, letsL_zip]
    | _ => simp [outB] at h
  | tab ks xs ls m =>
    cases t with
    | dct ns ys =>
      obtain ⟨ss, as, bs, pm, e1, e2, rfl⟩ := k
      simp only [ok] at o
      simp only [outB] at h
      simp only [lets]
      rw [h, Bool.true_and, letsK_allK]
      exact allK_zip _ o.1 o.2.1 pm e1 e2
    | _ => simp [outB] at h
def hold : Ak → Pt
  | row xs _ => .lst (ptL xs)
  | tab ks xs _ _ => .dct ks (ptL xs)
  | _ => .lst []
end Ak
theorem Val.ak {H : Hp} {v : V} {a : Ak} (h : Val H v a.pt) : ∃ (t : Addr) (w : Str) (rest : List V), v = .ref t ∧ H t = some (.tup (.str w :: rest)) ∧
    ((a = .any ∧ w = "any" ∧ rest = []) ∨ (∃ d u, a = .just d ∧ w = "just" ∧ rest = [u] ∧ Val H u d) ∨ (∃ xs m u, a = .row xs m ∧ w = "row" ∧ rest = [u, .bl m] ∧ Val H u (.lst (Ak.ptL xs))) ∨ ∃ ks xs ls m u z, a = .tab ks xs ls m ∧ w = "table" ∧ rest = [u, z, .bl m] ∧ Val H u (.dct ks (Ak.ptL xs)) ∧ Val H z (.lst (ls.map Pt.str))) := by
  cases a with
  | any =>
    simp only [Ak.pt] at h
    cases h with
    | tup h r =>
      cases r with
      | cons h1 r => cases h1; cases r; exact ⟨_, _, _, rfl, h, .inl ⟨rfl, rfl, rfl⟩⟩
  | just d =>
    simp only [Ak.pt] at h
    cases h with
    | tup h r =>
      cases r with
      | cons h1 r =>
        cases h1
        cases r with
        | cons h2 r => cases r; exact ⟨_, _, _, rfl, h, .inr (.inl ⟨d, _, rfl, rfl, rfl, h2⟩)⟩
  | row xs m =>
    simp only [Ak.pt] at h
    cases h with
    | tup h r =>
      cases r with
      | cons h1 r =>
        cases h1
        cases r with
        | cons h2 r =>
          cases r with
          | cons h3 r => cases h3; cases r; exact ⟨_, _, _, rfl, h, .inr (.inr (.inl ⟨xs, m, _, rfl, rfl, rfl, h2⟩))⟩
  | tab ks xs ls m =>
    simp only [Ak.pt] at h
    cases h with
    | tup h r =>
      cases r with
      | cons h1 r =>
        cases h1
        cases r with
        | cons h2 r =>
          cases r with
          | cons h3 r =>
            cases r with
            | cons h4 r => cases h4; cases r; exact ⟨_, _, _, rfl, h, .inr (.inr (.inr ⟨ks, xs, ls, m, _, _, rfl, rfl, rfl, h2, h3⟩))⟩
def spCount : Sp := fun vs H Q _ => ∃ (c l : Nat) (m : Bool), vs = [.int (c : Int), .int (l : Int), .bl m] ∧ Q (.bl (Ak.cnt c l m)) H
def spHoldIn : Sp := fun vs H Q _ => ∃ (G : Hp) (v : V) (a : Ak), vs = [v] ∧ Same G H ∧ Val G v a.pt ∧ ∀ (w : V) (H' : Hp), Same H H' → (((∃ xs m, a = .row xs m) ∨ ∃ ks xs ls m, a = .tab ks xs ls m) ∧ Val G w a.hold ∨ ((a = .any ∨ ∃ d, a = .just d) ∧ ∃ p, w = .ref p ∧ H' p = some (.lst []))) → Q w H'
def spNamesIn : Sp := fun vs H Q _ => ∃ (v y : V) (ks : List Str) (xs : List Ak) (ls : List Str) (m : Bool) (ns : List Str) (ys : List Pt), vs = [v, y] ∧ Val H v (Ak.tab ks xs ls m).pt ∧ Val H y (.dct ns ys) ∧ (Ak.tab ks xs ls m).ok ∧ (Pt.dct ns ys).doc ∧ ∀ H', Same H H' → Q (.bl (Ak.outB (.tab ks xs ls m) (.dct ns ys))) H'
def spOut : Sp := fun vs H Q _ => ∃ (v y : V) (a : Ak) (t : Pt), vs = [v, y] ∧ Val H v a.pt ∧ Val H y t ∧ a.ok ∧ t.doc ∧ a.size ≤ 900 ∧ t.size ≤ 900 ∧ ∀ H', Same H H' → Q (.bl (Ak.outB a t)) H'
def spLetsIn : Sp := fun vs H Q _ => ∃ (v y : V) (a : Ak) (t : Pt), vs = [v, y] ∧ Val H v a.pt ∧ Val H y t ∧ a.ok ∧ t.doc ∧ a.size ≤ 900 ∧ t.size ≤ 900 ∧ ∀ H', Same H H' → Q (.bl (Ak.lets a t)) H'
end L2

set_option Elab.async false
set_option linter.all false
set_option maxRecDepth 100000
set_option maxHeartbeats 4000000
namespace L2
open PySem PySem.Spec PyProof.Rows
theorem lk_self {α : Type} : ∀ {ks : List Str} {xs : List α}, ks.length = xs.length → ks.Nodup → ks.map (lk ks xs) = xs.map some := by
  intro ks
  induction ks with
  | nil => intro xs l _; cases xs with | nil => rfl | cons _ _ => simp at l
  | cons k r ih =>
    intro xs l nd
    cases xs with
    | nil => simp at l
    | cons x xs =>
      obtain ⟨n1, n2⟩ := List.nodup_cons.mp nd
      rw [List.map_cons, List.map_cons, lk_cons, if_pos rfl, ← ih (by simpa using l) n2]
      congr 1
      exact List.map_congr_left fun y hy => by rw [lk_cons, if_neg (fun z => n1 (by rw [← z]; exact hy))]
theorem lk_perm {α : Type} {ks ss : List Str} {xs as : List α} (l : ks.length = xs.length) (nd : ks.Nodup) (pm : ss.Perm ks) (e : ss.map (lk ks xs) = as.map some) : as.Perm xs := by
  have pp : (as.map some).Perm (xs.map some) := by rw [← e, ← lk_self l nd]; exact pm.map _
  have p2 := pp.filterMap id
  simpa using p2
theorem lk_all {α : Type} {ks : List Str} {xs : List α} (l : ks.length = xs.length) : ∀ {ss : List Str}, (∀ k ∈ ss, k ∈ ks) → ∃ as : List α, ss.map (lk ks xs) = as.map some
  | [], _ => ⟨[], rfl⟩
  | k :: ss, h => by
    obtain ⟨as, e⟩ := lk_all l (ss := ss) fun x hx => h x (List.mem_cons_of_mem _ hx)
    obtain ⟨x, hx⟩ := lk_some l (h k List.mem_cons_self)
    exact ⟨x :: as, by rw [List.map_cons, List.map_cons, hx, e]⟩
theorem lk_map {α β : Type} (f : α → β) {k : Str} : ∀ {ks : List Str} {xs : List α}, lk ks (xs.map f) k = (lk ks xs k).map f
  | [], xs => by simp [lk]
  | _ :: _, [] => by simp [lk]
  | y :: ks, x :: xs => by
    rw [List.map_cons, lk_cons, lk_cons]
    by_cases e : k = y
    · rw [if_pos e, if_pos e]; rfl
    · rw [if_neg e, if_neg e]; exact lk_map f
def sumA : List (Ak × Pt) → Nat
  | [] => 0
  | p :: r => p.1.size + sumA r
theorem sumA_append (a b : List (Ak × Pt)) : sumA (a ++ b) = sumA a + sumA b := by
  induction a with
  | nil => simp [sumA]
  | cons p r ih => simp only [List.cons_append, sumA, ih]; omega
theorem sumA_len : ∀ a : List (Ak × Pt), a.length ≤ sumA a
  | [] => Nat.le_refl _
  | p :: r => by have := sumA_len r; have := Ak.size_pos p.1; simp only [List.length_cons, sumA]; omega
theorem sumA_zip : ∀ {as : List Ak} {bs : List Pt}, sumA (as.zip bs) ≤ Ak.sizeL as
  | [], _ => by simp [sumA]
  | _ :: _, [] => by simp [sumA]
  | a :: as, b :: bs => by have := sumA_zip (as := as) (bs := bs); simp only [List.zip_cons_cons, sumA, Ak.sizeL]; omega
theorem sizeL_perm {a b : List Ak} (p : a.Perm b) : Ak.sizeL a = Ak.sizeL b := by
  induction p with
  | nil => rfl
  | cons x _ ih => simp only [Ak.sizeL, ih]
  | swap x y l => simp only [Ak.sizeL]; omega
  | trans _ _ i1 i2 => exact i1.trans i2
structure Prs (G : Hp) (u v : V) (a : Ak) (t : Pt) (l es fs : List V) (ps : List (Ak × Pt)) : Prop where
  le : es.length = l.length
  lf : fs.length = l.length
  lp : ps.length = l.length
  ge : ∀ (i : Nat) e, es[i]? = some e → ∃ s, l[i]? = some s ∧ GetV G u s e
  gf : ∀ (i : Nat) e, fs[i]? = some e → ∃ s, l[i]? = some s ∧ GetV G v s e
  va : ∀ (i : Nat) e p, es[i]? = some e → ps[i]? = some p → Val G e p.1.pt
  vb : ∀ (i : Nat) e p, fs[i]? = some e → ps[i]? = some p → Val G e p.2
  kp : Ak.Kp a t ps
  ok : ∀ p ∈ ps, p.1.ok ∧ p.2.doc ∧ p.1.size < a.size ∧ p.2.size < t.size
  sm : sumA ps < a.size
theorem pairs_row {G : Hp} {u v : V} {xs : List Ak} {m : Bool} {t : Pt} {l : List V} (hu : Val G u (Ak.row xs m).hold) (hv : Val G v t) (ok : (Ak.row xs m).ok) (dt : t.doc) (o : Ak.outB (.row xs m) t = true) (st : Steps (Ak.row xs m).hold l) : ∃ es fs ps, Prs G u v (.row xs m) t l es fs ps := by
  simp only [Ak.hold] at hu st
  simp only [Ak.ok] at ok
  cases hu with
  | @lst a vs _ ha ra =>
    cases hv with
    | @lst b ws ys hb rb =>
      simp only [Pt.doc] at dt
      simp only [Ak.outB, Ak.cnt, Bool.or_eq_true, beq_iff_eq, Bool.and_eq_true, decide_eq_true_eq] at o
      have lx : xs.length ≤ ys.length := by omega
      have l1 := ra.length
      have l2 := rb.length
      rw [Ak.ptL_map, List.length_map] at l1
      have el : l = (List.range xs.length).map fun (i : Nat) => V.int (i : Int) := by
        have : l = (List.range (Ak.ptL xs).length).map fun (i : Nat) => V.int (i : Int) := st
        rw [Ak.ptL_map, List.length_map] at this
        exact this
      subst el
      refine ⟨vs, ws.take xs.length, xs.zip ys, by simp [l1], by simp; omega, by simp; omega, fun i e he => ?_, fun i e he => ?_, fun i e p he hp => ?_, fun i e p he hp => ?_, rfl, fun p hp => ?_, ?_⟩
      · have hi := (List.getElem?_eq_some_iff.mp he).1
        exact ⟨.int (i : Int), by rw [List.getElem?_map, List.getElem?_range (by omega)]; rfl, .inl ⟨a, vs, i, rfl, ha, rfl, he⟩⟩
      · have hi := (List.getElem?_eq_some_iff.mp he).1
        rw [List.length_take] at hi
        rw [List.getElem?_take, if_pos (by omega)] at he
        exact ⟨.int (i : Int), by rw [List.getElem?_map, List.getElem?_range (by omega)]; rfl, .inl ⟨b, ws, i, rfl, hb, rfl, he⟩⟩
      · obtain ⟨x, y⟩ := p
        rw [List.getElem?_zip_eq_some] at hp
        obtain ⟨t', h1, h2⟩ := ra.get he
        rw [Ak.ptL_map, List.getElem?_map, hp.1] at h1
        cases h1
        exact h2
      · obtain ⟨x, y⟩ := p
        rw [List.getElem?_zip_eq_some] at hp
        have hi := (List.getElem?_eq_some_iff.mp hp.1).1
        rw [List.getElem?_take, if_pos hi] at he
        obtain ⟨t', h1, h2⟩ := rb.get he
        rw [hp.2] at h1
        cases h1
        exact h2
      · obtain ⟨m1, m2⟩ := List.of_mem_zip hp
        have s1 := Ak.sizeL_mem m1
        have s2 := Pt.sizeL_mem m2
        exact ⟨Ak.okL_mem ok _ m1, Pt.docL_mem dt _ m2, by simp only [Ak.size]; omega, by simp only [Pt.size]; omega⟩
      · have := sumA_zip (as := xs) (bs := ys)
        simp only [Ak.size]; omega
    | int _ => simp [Ak.outB] at o
    | str _ => simp [Ak.outB] at o
    | bl _ => simp [Ak.outB] at o
    | tup _ _ => simp [Ak.outB] at o
    | dct _ _ _ => simp [Ak.outB] at o
theorem pairs_tab {G : Hp} {u v : V} {ks : List Str} {xs : List Ak} {ls : List Str} {m : Bool} {t : Pt} {l : List V} (hu : Val G u (Ak.tab ks xs ls m).hold) (hv : Val G v t) (ok : (Ak.tab ks xs ls m).ok) (dt : t.doc) (o : Ak.outB (.tab ks xs ls m) t = true) (st : Steps (Ak.tab ks xs ls m).hold l) : ∃ es fs ps, Prs G u v (.tab ks xs ls m) t l es fs ps := by
  simp only [Ak.hold] at hu st
  simp only [Ak.ok] at ok
  obtain ⟨o1, o2, o3, o4, o5, o6, o7⟩ := ok
  have lp : (Ak.ptL xs).length = xs.length := by rw [Ak.ptL_map, List.length_map]
  cases hu with
  | @dct a kvs _ _ ha hka ra =>
    cases hv with
    | @dct b kws ns ys hb hkb rb =>
      simp only [Pt.doc] at dt
      simp only [Ak.outB, Bool.and_eq_true, List.all_eq_true, decide_eq_true_eq] at o
      obtain ⟨ss, rfl, pm, so⟩ := st
      have sub : ∀ k ∈ ss, k ∈ ks := fun k hk => pm.mem_iff.mp hk
      have sub2 : ∀ k ∈ ss, k ∈ ns := fun k hk => o.1.1 k (sub k hk)
      obtain ⟨es, us, h1, h2, h3, h4⟩ := dct_kids hka ra (by rw [lp]; exact o1) sub
      obtain ⟨fs, ts, g1, g2, g3, g4⟩ := dct_kids hkb rb dt.1 sub2
      obtain ⟨as, e1⟩ := lk_all (xs := xs) o1 sub
      have eu : us = as.map Ak.pt := by
        have : ss.map (lk ks (Ak.ptL xs)) = (as.map Ak.pt).map some := by
          rw [Ak.ptL_map, List.map_map]
          have : ss.map (lk ks (xs.map Ak.pt)) = (ss.map (lk ks xs)).map (Option.map Ak.pt) := by
            rw [List.map_map]
            exact List.map_congr_left fun k _ => lk_map Ak.pt
          rw [this, e1, List.map_map]
          rfl
        rw [h2] at this
        have inj : ∀ {a b : List Pt}, a.map some = b.map some → a = b := by
          intro a
          induction a with
          | nil => intro b h; cases b with | nil => rfl | cons _ _ => simp at h
          | cons x r ih =>
            intro b h
            cases b with
            | nil => simp at h
            | cons y q =>
              simp only [List.map_cons, List.cons.injEq] at h
              rw [Option.some.inj h.1, ih h.2]
        exact inj this
      subst eu
      have la : as.length = ss.length := by have := congrArg List.length e1; simpa using this.symm
      have lt : ts.length = ss.length := by have := congrArg List.length g2; simpa using this.symm
      have pa := lk_perm o1 o2 pm e1
      refine ⟨es, fs, as.zip ts, by simp [h3], by simp [g3], by simp; omega, fun i e he => ?_, fun i e he => ?_, fun i e p he hp => ?_, fun i e p he hp => ?_, ⟨ss, as, ts, pm, e1, g2, rfl⟩, fun p hp => ?_, ?_⟩
      · obtain ⟨k, k1, k2⟩ := h4 i e he
        exact ⟨.str k, by rw [List.getElem?_map, k1]; rfl, .inr ⟨a, kvs, k, rfl, ha, rfl, k2⟩⟩
      · obtain ⟨k, k1, k2⟩ := g4 i e he
        exact ⟨.str k, by rw [List.getElem?_map, k1]; rfl, .inr ⟨b, kws, k, rfl, hb, rfl, k2⟩⟩
      · obtain ⟨x, y⟩ := p
        rw [List.getElem?_zip_eq_some] at hp
        obtain ⟨t', j1, j2⟩ := h1.get he
        rw [List.getElem?_map, hp.1] at j1
        cases j1
        exact j2
      · obtain ⟨x, y⟩ := p
        rw [List.getElem?_zip_eq_some] at hp
        obtain ⟨t', j1, j2⟩ := g1.get he
        rw [hp.2] at j1
        cases j1
        exact j2
      · obtain ⟨m1, m2⟩ := List.of_mem_zip hp
        have m1' := pa.mem_iff.mp m1
        have m2' : p.2 ∈ ys := by
          have : some p.2 ∈ ss.map (lk ns ys) := by rw [g2]; exact List.mem_map_of_mem m2
          obtain ⟨k, _, e⟩ := List.mem_map.mp this
          exact (lk_mem e).2
        have s1 := Ak.sizeL_mem m1'
        have s2 := Pt.sizeL_mem m2'
        exact ⟨Ak.okL_mem o7 _ m1', Pt.docL_mem dt.2.2.2.2 _ m2', by simp only [Ak.size]; omega, by simp only [Pt.size]; omega⟩
      · have := sumA_zip (as := as) (bs := ts)
        have := sizeL_perm pa
        simp only [Ak.size]; omega
    | int _ => simp [Ak.outB] at o
    | str _ => simp [Ak.outB] at o
    | bl _ => simp [Ak.outB] at o
    | tup _ _ => simp [Ak.outB] at o
    | lst _ _ => simp [Ak.outB] at o
theorem PairsAt.of {G H : Hp} : ∀ {ts : List Addr} {es fs : List V} {ps : List (Ak × Pt)}, ts.length = ps.length → es.length = ps.length → fs.length = ps.length → (∀ (i : Nat) e p, es[i]? = some e → ps[i]? = some p → Val G e p.1.pt) → (∀ (i : Nat) e p, fs[i]? = some e → ps[i]? = some p → Val G e p.2) →
    (∀ (j : Nat) t x y, ts[j]? = some t → es[j]? = some x → fs[j]? = some y → H t = some (.tup [x, y])) → PairsAt G H ts (ps.map fun p => (p.1.pt, p.2))
  | [], [], [], [], _, _, _, _, _, _ => .nil
  | t :: ts, e :: es, f :: fs, p :: ps, l1, l2, l3, h1, h2, h3 => .cons (p := (p.1.pt, p.2)) (h3 0 t e f (by simp) (by simp) (by simp)) (h1 0 e p (by simp) (by simp)) (h2 0 f p (by simp) (by simp))
      (PairsAt.of (by simpa using l1) (by simpa using l2) (by simpa using l3) (fun i e p a b => h1 (i + 1) e p (by simpa using a) (by simpa using b)) (fun i e p a b => h2 (i + 1) e p (by simpa using a) (by simpa using b)) fun j t x y a b c => h3 (j + 1) t x y (by simpa using a) (by simpa using b) (by simpa using c))
  | [], _, _, _ :: _, l, _, _, _, _, _ => by simp at l
  | _ :: _, _, _, [], l, _, _, _, _, _ => by simp at l
  | _, [], _, _ :: _, _, l, _, _, _, _ => by simp at l
  | _, _ :: _, _, [], _, l, _, _, _, _ => by simp at l
  | _, _, [], _ :: _, _, _, l, _, _, _ => by simp at l
  | _, _, _ :: _, [], _, _, l, _, _, _ => by simp at l
theorem comp_pairs {J : It} {te : TE} {fs : List Nat} {σ : St} {H : Hp} {Q : VK} (n : Nat) (item : Nat → V) (xs ys : List V) (lx : xs.length = n) (ly : ys.length = n) (hn : n ≤ 1000) (hgo : ∀ i H2, i < n → Same H H2 → J.go i H2)
    (hy : ∀ i H2 v H', i < n → Same H H2 → J.yld i H2 v H' → v = item i ∧ H' = H2) (hst : ∀ H2, Same H H2 → J.stop n H2)
    (he : ∀ i H2 (R : VK) x y, i < n → Same H H2 → xs[i]? = some x → ys[i]? = some y → (∀ p, H2 p = none → R (.ref p) (upd H2 p (.tup [x, y]))) → te (some (item i) :: pickS σ fs) H2 R)
    (hQ : ∀ D H2 (ts : List Addr), H D = none → Same H H2 → H2 D = some (.lst (ts.map V.ref)) → ts.length = n → (∀ (j : Nat) t x y, ts[j]? = some t → xs[j]? = some x → ys[j]? = some y → H2 t = some (.tup [x, y])) → Q (.ref D) H2) : CompRd J tYes te fs σ H Q := by
  refine comp_by n item (fun D i H2 => H D = none ∧ Same H H2 ∧ ∃ ts : List Addr, H2 D = some (.lst (ts.map V.ref)) ∧ ts.length = i ∧ ∀ (j : Nat) t x y, ts[j]? = some t → xs[j]? = some x → ys[j]? = some y → H2 t = some (.tup [x, y]))
    (fun D hD => ⟨hD, Same.new hD, [], upd_same, rfl, fun j t x y h => by simp at h⟩) (fun D i H2 hi ⟨_, s, _⟩ => hgo i H2 hi s) (fun D i H2 v H' hi ⟨_, s, _⟩ y => hy i H2 v H' hi s y) (fun D H2 ⟨_, s, _⟩ => hst H2 s) (fun D i H2 _ hi ⟨hD, s, ts, d2, lt, tt⟩ => ?_) (fun D H2 _ ⟨hD, s, ts, d2, lt, tt⟩ => hQ D H2 ts hD s d2 lt tt)
  obtain ⟨x, hx⟩ : ∃ x, xs[i]? = some x := ⟨_, List.getElem?_eq_getElem (by omega)⟩
  obtain ⟨y, hy'⟩ : ∃ y, ys[i]? = some y := ⟨_, List.getElem?_eq_getElem (by omega)⟩
  refine he i H2 _ x y hi s hx hy' fun p hp => ?_
  have s2 := Same.new (o := .tup [x, y]) hp
  have d3 := s2 _ _ d2
  refine ⟨ts.map V.ref, d3, Nat.lt_of_le_of_lt (by rw [List.length_map]; omega) (small1000 (Nat.le_refl 1000)), hD, (s.trans s2).put hD, ts ++ [p], by rw [upd_same, List.map_append]; rfl, by simp [lt], fun j t x' y' h1 h2 h3 => ?_⟩
  have nd : ∀ {t : Addr} {zs : List V}, upd H2 p (.tup [x, y]) t = some (.tup zs) → upd (upd H2 p (.tup [x, y])) D (.lst (ts.map V.ref ++ [.ref p])) t = some (.tup zs) := fun e => by rw [upd_ne (ne_of e d3 (by intro z; cases z))]; exact e
  by_cases hj : j < ts.length
  · rw [List.getElem?_append_left hj] at h1
    exact nd (s2 _ _ (tt j t x' y' h1 h2 h3))
  · have hl := (List.getElem?_eq_some_iff.mp h1).1
    rw [List.length_append, List.length_singleton] at hl
    have e : j = i := by omega
    subst e
    rw [List.getElem?_append_right (by omega), lt, Nat.sub_self] at h1
    have ep : p = t := by simpa using h1
    subst ep
    rw [hx] at h2
    rw [hy'] at h3
    cases h2
    cases h3
    exact nd upd_same
end L2

set_option Elab.async false
set_option linter.all false
set_option maxRecDepth 100000
set_option maxHeartbeats 4000000
namespace L2
open PySem PySem.Spec PyProof.Rows
def nw (H H' : Hp) : Hp := fun b => match H b with
  | none => H' b
  | some _ => none
theorem nw_new {H H' : Hp} {b : Addr} (h : H b = none) : nw H H' b = H' b := by unfold nw; rw [h]
theorem nw_old {H H' : Hp} {b : Addr} {o} (h : H b = some o) : nw H H' b = none := by unfold nw; rw [h]
theorem nw_sub {H H' : Hp} : Same (nw H H') H' := fun b o e => by
  cases h : H b with
  | none => rw [nw_new h] at e; exact e
  | some z => rw [nw_old h] at e; cases e
structure Bt (o : Option Addr) (H H' : Hp) : Prop where
  keep : ∀ b e, o ≠ some b → H b = some e → H' b = some e
  dom : ∀ b, H' b = none → H b = none
theorem Bt.refl {o : Option Addr} {H : Hp} : Bt o H H := ⟨fun _ _ _ e => e, fun _ h => h⟩
theorem Bt.of {o : Option Addr} {H H' : Hp} (s : Same H H') : Bt o H H' := ⟨fun b e _ h => s b e h, fun b h => s.free h⟩
theorem Bt.same {H H' : Hp} (s : Bt none H H') : Same H H' := fun b e h => s.keep b e (fun z => nomatch z) h
theorem Bt.trans {o : Option Addr} {H H1 H2 : Hp} (a : Bt o H H1) (b : Bt o H1 H2) : Bt o H H2 := ⟨fun c e n h => b.keep c e n (a.keep c e n h), fun c h => a.dom c (b.dom c h)⟩
theorem upd_none {H : Hp} {p b : Addr} {o : HO} (h : upd H p o b = none) : b ≠ p ∧ H b = none := by
  by_cases e : b = p
  · subst e; rw [upd_same] at h; cases h
  · rw [upd_ne e] at h; exact ⟨e, h⟩
theorem Bt.put {l : Addr} {H H1 : Hp} {o : HO} (a : Bt (some l) H H1) : Bt (some l) H (upd H1 l o) := ⟨fun c e n h => by rw [upd_ne (fun z => n (by rw [z]))]; exact a.keep c e n h, fun b h => a.dom b (upd_none h).2⟩
theorem Bt.new {o : Option Addr} {p : Addr} {H H1 : Hp} {e : HO} (a : Bt o H H1) (h : H p = none) : Bt o H (upd H1 p e) := ⟨fun c e' n h' => by rw [upd_ne (fun z => by rw [z, h] at h'; cases h')]; exact a.keep c e' n h', fun b h => a.dom b (upd_none h).2⟩
def hid (l : Addr) (H : Hp) : Hp := fun b => if b = l then none else H b
theorem hid_ne {l b : Addr} {H : Hp} (h : b ≠ l) : hid l H b = H b := by unfold hid; rw [if_neg h]
theorem hid_sub {l : Addr} {H : Hp} : Same (hid l H) H := fun b o e => by
  unfold hid at e
  by_cases h : b = l
  · rw [if_pos h] at e; cases e
  · rw [if_neg h] at e; exact e
theorem Bt.hid {l : Addr} {H H' : Hp} (s : Bt (some l) H H') : Same (hid l H) (hid l H') := fun b o e => by
  by_cases h : b = l
  · unfold L2.hid at e; rw [if_pos h] at e; cases e
  · rw [hid_ne h] at e ⊢; exact s.keep _ _ (fun z => h (Option.some.inj z).symm) e
theorem nw_up {H H1 H2 H3 : Hp} (d : ∀ b, H1 b = none → H b = none) (s : ∀ b o, H1 b = none → H2 b = some o → H3 b = some o) : Same (nw H1 H2) (nw H H3) := fun b o e => by
  cases h : H1 b with
  | none => rw [nw_new h] at e; rw [nw_new (d b h)]; exact s b o h e
  | some z => rw [nw_old h] at e; cases e
theorem ValL.snoc {H : Hp} {vs : List V} {ts : List Pt} {v : V} {t : Pt} (h : ValL H vs ts) (g : Val H v t) : ValL H (vs ++ [v]) (ts ++ [t]) := h.append (.cons g .nil)
section
variable {J : It} {te : TE} {fs : List Nat} {σ : St} {H : Hp} {Q : VK}
theorem comp_new (o : Option Addr) (n : Nat) (item : Nat → V) (Iv : Nat → List Pt → Hp → Prop) (hn : n ≤ 1000) (h0 : ∀ D, H D = none → Iv 0 [] (upd H D (.lst [])))
    (fr : ∀ i us H2 D ws, Bt o H H2 → H D = none → Iv i us H2 → Iv i us (upd H2 D (.lst ws))) (hl : ∀ l, o = some l → H l ≠ none)
    (hgo : ∀ i us H2, i < n → Bt o H H2 → Iv i us H2 → J.go i H2) (hy : ∀ i us H2 v H', i < n → Bt o H H2 → Iv i us H2 → J.yld i H2 v H' → v = item i ∧ H' = H2) (hst : ∀ us H2, Bt o H H2 → Iv n us H2 → J.stop n H2)
    (he : ∀ i us H2 (R : VK), i < n → Bt o H H2 → Iv i us H2 → us.length = i → (∀ w u H3, Bt o H2 H3 → Val (nw H2 H3) w u → Iv (i + 1) (us ++ [u]) H3 → R w H3) → te (some (item i) :: pickS σ fs) H2 R)
    (hQ : ∀ D H2 ws us, H D = none → Bt o H H2 → H2 D = some (.lst ws) → us.length = n → ValL (nw H H2) ws us → Iv n us H2 → Q (.ref D) H2) : CompRd J tYes te fs σ H Q := by
  refine comp_by n item (fun D i H2 => H D = none ∧ Bt o H H2 ∧ ∃ ws us, H2 D = some (.lst ws) ∧ us.length = i ∧ ValL (nw (upd H D (.lst [])) H2) ws us ∧ Iv i us H2)
    (fun D hD => ⟨hD, .new .refl hD, [], [], upd_same, rfl, .nil, h0 D hD⟩) (fun D i H2 hi ⟨_, s, ws, us, _, _, _, iv⟩ => hgo i us H2 hi s iv) (fun D i H2 v H' hi ⟨_, s, ws, us, _, _, _, iv⟩ y => hy i us H2 v H' hi s iv y) (fun D H2 ⟨_, s, ws, us, _, _, _, iv⟩ => hst us H2 s iv) (fun D i H2 _ hi ⟨hD, s, ws, us, d2, lu, vl, iv⟩ => ?_) (fun D H2 _ ⟨hD, s, ws, us, d2, lu, vl, iv⟩ => ?_)
  · refine he i us H2 _ hi s iv lu fun w u H3 s3 vw iv3 => ?_
    have oD : o ≠ some D := fun z => hl D z hD
    have d3 := s3.keep D _ oD d2
    have lw := vl.length
    have sD : ∀ b, upd H D (.lst []) b = none → b ≠ D ∧ H b = none := fun b h => upd_none h
    refine ⟨ws, d3, Nat.lt_of_le_of_lt (by omega) (small1000 (Nat.le_refl 1000)), hD, (s.trans s3).new hD, ws ++ [w], us ++ [u], upd_same, by simp [lu], ValL.snoc (vl.up (nw_up (fun b h => h) fun b e h1 h2 => ?_)) (vw.up (nw_up (fun b h => ?_) fun b e h1 h2 => ?_)), fr _ _ _ _ _ (s.trans s3) hD iv3⟩
    · have nb := (sD b h1).1
      rw [upd_ne nb]
      refine s3.keep b e (fun z => ?_) h2
      exact hl b z (sD b h1).2
    · have nb : b ≠ D := fun z => by rw [z, d2] at h; cases h
      rw [upd_ne nb]
      exact s.dom b h
    · have nb : b ≠ D := fun z => by rw [z, d2] at h1; cases h1
      rw [upd_ne nb]
      exact h2
  · exact hQ D H2 ws us hD s d2 lu (vl.up (nw_up (fun b h => (upd_none h).2) fun b e _ h => h)) iv
theorem comp_newP (o : Option Addr) (n : Nat) (item : Nat → V) (ks : List Str) (Iv : Nat → List Pt → Hp → Prop) (hn : n ≤ 1000) (h0 : ∀ D, H D = none → Iv 0 [] (upd H D (.lst [])))
    (fr : ∀ i us H2 D e, Bt o H H2 → (H D = none) → Iv i us H2 → Iv i us (upd H2 D e)) (hl : ∀ l, o = some l → H l ≠ none)
    (hgo : ∀ i us H2, i < n → Bt o H H2 → Iv i us H2 → J.go i H2) (hy : ∀ i us H2 v H', i < n → Bt o H H2 → Iv i us H2 → J.yld i H2 v H' → v = item i ∧ H' = H2) (hst : ∀ us H2, Bt o H H2 → Iv n us H2 → J.stop n H2)
    (he : ∀ i us H2 (R : VK), i < n → Bt o H H2 → Iv i us H2 → us.length = i → (∀ w u H3 t, Bt o H2 H3 → Val (nw H2 H3) w u → Iv (i + 1) (us ++ [u]) H3 → H3 t = none → R (.ref t) (upd H3 t (.tup [.str (ks.getD i ""), w]))) → te (some (item i) :: pickS σ fs) H2 R)
    (hQ : ∀ D H2 (ts : List Addr) ws us, H D = none → Bt o H H2 → H2 D = some (.lst (ts.map V.ref)) → ts.length = n → us.length = n → (∀ (j : Nat) t w, ts[j]? = some t → ws[j]? = some w → H2 t = some (.tup [.str (ks.getD j ""), w]) ∧ H t = none) → ValL (nw H H2) ws us → Iv n us H2 → Q (.ref D) H2) : CompRd J tYes te fs σ H Q := by
  refine comp_by n item (fun D i H2 => H D = none ∧ Bt o H H2 ∧ ∃ (ts : List Addr) (ws : List V) (us : List Pt), H2 D = some (.lst (ts.map V.ref)) ∧ ts.length = i ∧ us.length = i ∧ (∀ (j : Nat) t w, ts[j]? = some t → ws[j]? = some w → H2 t = some (.tup [.str (ks.getD j ""), w]) ∧ H t = none) ∧ ValL (nw (upd H D (.lst [])) H2) ws us ∧ Iv i us H2)
    (fun D hD => ⟨hD, .new .refl hD, [], [], [], upd_same, rfl, rfl, (fun j t w h => by simp at h), .nil, h0 D hD⟩) (fun D i H2 hi ⟨_, s, ts, ws, us, _, _, _, _, _, iv⟩ => hgo i us H2 hi s iv) (fun D i H2 v H' hi ⟨_, s, ts, ws, us, _, _, _, _, _, iv⟩ y => hy i us H2 v H' hi s iv y) (fun D H2 ⟨_, s, ts, ws, us, _, _, _, _, _, iv⟩ => hst us H2 s iv) (fun D i H2 _ hi ⟨hD, s, ts, ws, us, d2, lt, lu, tt, vl, iv⟩ => ?_) (fun D H2 _ ⟨hD, s, ts, ws, us, d2, lt, lu, tt, vl, iv⟩ => ?_)
  · refine he i us H2 _ hi s iv lu fun w u H3 t s3 vw iv3 ht => ?_
    have oD : o ≠ some D := fun z => hl D z hD
    have d3 := s3.keep D _ oD d2
    have tD : t ≠ D := fun z => by rw [z, d3] at ht; cases ht
    have d4 : upd H3 t (.tup [.str (ks.getD i ""), w]) D = some (.lst (ts.map V.ref)) := by rw [upd_ne (Ne.symm tD)]; exact d3
    have lw := vl.length
    have tH : H t = none := (s.trans s3).dom t ht
    have sD : ∀ b, upd H D (.lst []) b = none → b ≠ D ∧ H b = none := fun b h => upd_none h
    refine ⟨ts.map V.ref, d4, Nat.lt_of_le_of_lt (by rw [List.length_map]; omega) (small1000 (Nat.le_refl 1000)), hD, ((s.trans s3).new tH).new hD, ts ++ [t], ws ++ [w], us ++ [u], by rw [upd_same, List.map_append]; rfl, by simp [lt], by simp [lu], fun j t' w' h1 h2 => ?_, ValL.snoc (vl.up (nw_up (fun b h => h) fun b e h1 h2 => ?_)) (vw.up (nw_up (fun b h => ?_) fun b e h1 h2 => ?_)), fr _ _ _ _ _ ((s.trans s3).new tH) hD (fr _ _ _ _ _ (s.trans s3) tH iv3)⟩
    · by_cases hj : j < ts.length
      · rw [List.getElem?_append_left hj] at h1
        rw [List.getElem?_append_left (by omega)] at h2
        obtain ⟨g1, g2⟩ := tt j t' w' h1 h2
        have g3 := s3.keep t' _ (fun z => hl t' z g2) g1
        have n1 : t' ≠ t := fun z => by rw [z, ht] at g3; cases g3
        have n2 : t' ≠ D := fun z => by rw [z, d3] at g3; cases g3
        exact ⟨by rw [upd_ne n2, upd_ne n1]; exact g3, g2⟩
      · have hl' := (List.getElem?_eq_some_iff.mp h1).1
        rw [List.length_append, List.length_singleton] at hl'
        have ej : j = i := by omega
        subst ej
        rw [List.getElem?_append_right (by omega), lt, Nat.sub_self] at h1
        have e1 : t = t' := by simpa using h1
        subst e1
        rw [List.getElem?_append_right (by omega), show j - ws.length = 0 by omega] at h2
        have e2 : w = w' := by simpa using h2
        subst e2
        exact ⟨by rw [upd_ne tD, upd_same], tH⟩
    · have nb := (sD b h1).1
      have hb := (sD b h1).2
      have h3 := s3.keep b e (fun z => hl b z hb) h2
      have nt : b ≠ t := fun z => by rw [z, ht] at h3; cases h3
      rw [upd_ne nb, upd_ne nt]
      exact h3
    · have nb : b ≠ D := fun z => by rw [z, d2] at h; cases h
      rw [upd_ne nb]
      exact s.dom b h
    · have nb : b ≠ D := fun z => by rw [z, d2] at h1; cases h1
      have nt : b ≠ t := fun z => by rw [z, ht] at h2; cases h2
      rw [upd_ne nb, upd_ne nt]
      exact h2
  · exact hQ D H2 ts ws us hD s d2 lt lu tt (vl.up (nw_up (fun b h => (upd_none h).2) fun b e _ h => h)) iv
end
mutual
def Pt.nice : Pt → Prop
  | .int _ | .str _ | .bl _ => True
  | .lst xs | .tup xs => xs.length ≤ 900 ∧ Pt.niceL xs
  | .dct ks xs => ks.length = xs.length ∧ ks.Nodup ∧ ks.length ≤ 900 ∧ Pt.niceL xs
def Pt.niceL : List Pt → Prop
  | [] => True
  | x :: r => Pt.nice x ∧ Pt.niceL r
end
theorem Pt.niceL_mem : ∀ {xs : List Pt}, Pt.niceL xs → ∀ x ∈ xs, x.nice
  | y :: r, h, x, hx => by
    simp only [Pt.niceL] at h
    rcases List.mem_cons.mp hx with rfl | hx
    · exact h.1
    · exact Pt.niceL_mem h.2 x hx
theorem Pt.niceL_of : ∀ {xs : List Pt}, (∀ x ∈ xs, x.nice) → Pt.niceL xs
  | [], _ => trivial
  | x :: r, h => ⟨h x List.mem_cons_self, Pt.niceL_of fun y hy => h y (List.mem_cons_of_mem _ hy)⟩
mutual
theorem Pt.doc_nice : ∀ t : Pt, t.doc → t.size ≤ 900 → t.nice
  | .int _, _, _ => trivial
  | .str _, _, _ => trivial
  | .bl _, d, _ => by simp [Pt.doc] at d
  | .tup _, d, _ => by simp [Pt.doc] at d
  | .lst xs, d, z => by
    simp only [Pt.doc] at d
    simp only [Pt.size] at z
    have := Pt.lenL xs
    simp only [Pt.nice]
    exact ⟨by omega, Pt.doc_niceL xs d (by omega)⟩
  | .dct ks xs, d, z => by
    simp only [Pt.doc] at d
    simp only [Pt.size] at z
    simp only [Pt.nice]
    exact ⟨d.1, d.2.1, by omega, Pt.doc_niceL xs d.2.2.2.2 (by omega)⟩
theorem Pt.doc_niceL : ∀ xs : List Pt, Pt.docL xs → Pt.sizeL xs ≤ 900 → Pt.niceL xs
  | [], _, _ => trivial
  | x :: r, d, z => by
    simp only [Pt.docL] at d
    simp only [Pt.sizeL] at z
    exact ⟨Pt.doc_nice x d.1 (by omega), Pt.doc_niceL r d.2 (by omega)⟩
end
mutual
theorem Ak.ok_nice : ∀ a : Ak, a.ok → a.size ≤ 900 → a.pt.nice
  | .any, _, _ => by simp [Ak.pt, Pt.nice, Pt.niceL]
  | .just d, o, _ => by
    simp only [Ak.ok] at o
    simp only [Ak.pt, Pt.nice, Pt.niceL]
    exact ⟨by simp, trivial, Pt.doc_nice d o.2.1 (by omega), trivial⟩
  | .row xs m, o, z => by
    simp only [Ak.ok] at o
    simp only [Ak.size] at z
    have := Ak.lenL xs
    simp only [Ak.pt, Pt.nice, Pt.niceL]
    exact ⟨by simp, trivial, ⟨by rw [Ak.ptL_map, List.length_map]; omega, Ak.ok_niceL xs o (by omega)⟩, trivial, trivial⟩
  | .tab ks xs ls m, o, z => by
    simp only [Ak.ok] at o
    simp only [Ak.size] at z
    simp only [Ak.pt, Pt.nice, Pt.niceL]
    refine ⟨by simp, trivial, ⟨by rw [Ak.ptL_map, List.length_map]; exact o.1, o.2.1, by omega, Ak.ok_niceL xs o.2.2.2.2.2.2 (by omega)⟩, ⟨by rw [List.length_map]; omega, Pt.niceL_of fun x hx => ?_⟩, trivial, trivial⟩
    obtain ⟨y, _, rfl⟩ := List.mem_map.mp hx
    trivial
theorem Ak.ok_niceL : ∀ xs : List Ak, Ak.okL xs → Ak.sizeL xs ≤ 900 → Pt.niceL (Ak.ptL xs)
  | [], _, _ => trivial
  | x :: r, o, z => by
    simp only [Ak.okL] at o
    simp only [Ak.sizeL] at z
    simp only [Ak.ptL, Pt.niceL]
    exact ⟨Ak.ok_nice x o.1 (by omega), Ak.ok_niceL r o.2 (by omega)⟩
end
mutual
theorem Ak.deep_pt : ∀ a : Ak, a.ok → a.pt.deep ≤ 2 * a.deep + 9
  | .any, _ => by simp [Ak.pt, Pt.deep, Pt.deepL]
  | .just d, o => by
    simp only [Ak.ok] at o
    have : d.deep ≤ 3 := by
      have h := o.1
      cases h with
      | one h => cases h <;> simp [Pt.deep, Pt.deepL]
      | row h =>
        have : ∀ xs : List Pt, (∀ x ∈ xs, Sm0 x) → Pt.deepL xs ≤ 1 := by
          intro xs
          induction xs with
          | nil => intro _; simp [Pt.deepL]
          | cons x r ih =>
            intro h
            have h1 := h x List.mem_cons_self
            have h2 := ih fun y hy => h y (List.mem_cons_of_mem _ hy)
            have : x.deep ≤ 1 := by cases h1 <;> simp [Pt.deep, Pt.deepL]
            simp only [Pt.deepL]; omega
        have := this _ h
        simp only [Pt.deep]; omega
      | tab h =>
        have : ∀ xs : List Pt, (∀ x ∈ xs, Sm0 x) → Pt.deepL xs ≤ 1 := by
          intro xs
          induction xs with
          | nil => intro _; simp [Pt.deepL]
          | cons x r ih =>
            intro h
            have h1 := h x List.mem_cons_self
            have h2 := ih fun y hy => h y (List.mem_cons_of_mem _ hy)
            have : x.deep ≤ 1 := by cases h1 <;> simp [Pt.deep, Pt.deepL]
            simp only [Pt.deepL]; omega
        have := this _ h
        simp only [Pt.deep]; omega
    simp only [Ak.pt, Pt.deep, Pt.deepL, Ak.deep]
    omega
  | .row xs m, o => by
    simp only [Ak.ok] at o
    have := Ak.deep_ptL xs o
    simp only [Ak.pt, Pt.deep, Pt.deepL, Ak.deep]
    omega
  | .tab ks xs ls m, o => by
    simp only [Ak.ok] at o
    have := Ak.deep_ptL xs o.2.2.2.2.2.2
    have h2 : ∀ ls : List Str, Pt.deepL (ls.map Pt.str) ≤ 1 := by
      intro ls
      induction ls with
      | nil => simp [Pt.deepL]
      | cons x r ih => simp only [List.map_cons, Pt.deepL, Pt.deep]; omega
    have := h2 ls
    simp only [Ak.pt, Pt.deep, Pt.deepL, Ak.deep]
    omega
theorem Ak.deep_ptL : ∀ xs : List Ak, Ak.okL xs → Pt.deepL (Ak.ptL xs) ≤ 2 * Ak.deepL xs + 9
  | [], _ => by simp [Ak.ptL, Pt.deepL]
  | x :: r, o => by
    simp only [Ak.okL] at o
    have := Ak.deep_pt x o.1
    have := Ak.deep_ptL r o.2
    simp only [Ak.ptL, Pt.deepL, Ak.deepL]
    omega
end
def kvz (ks : List Str) (ws : List V) : List (Key × V) := (ks.zip ws).map fun p => (Sum.inr p.1, p.2)
theorem kvz_keys {ks : List Str} {ws : List V} (l : ks.length = ws.length) : (kvz ks ws).map (·.1) = ks.map Sum.inr := by
  unfold kvz
  rw [List.map_map]
  have : (ks.zip ws).map Prod.fst = ks := List.map_fst_zip (by omega)
  conv => rhs; rw [← this, List.map_map]
  rfl
theorem kvz_vals {ks : List Str} {ws : List V} (l : ks.length = ws.length) : (kvz ks ws).map (·.2) = ws := by
  unfold kvz
  rw [List.map_map]
  have : (ks.zip ws).map Prod.snd = ws := List.map_snd_zip (by omega)
  conv => rhs; rw [← this]
  rfl
theorem kvz_len {ks : List Str} {ws : List V} (l : ks.length = ws.length) : (kvz ks ws).length = ks.length := by
  have := congrArg List.length (kvz_keys l)
  simpa using this
theorem kvz_get {ks : List Str} {ws : List V} {j : Nat} {k : Key} {v : V} (h : (kvz ks ws)[j]? = some (k, v)) : ∃ nm, ks[j]? = some nm ∧ ws[j]? = some v ∧ k = Sum.inr nm := by
  unfold kvz at h
  rw [List.getElem?_map] at h
  cases e : (ks.zip ws)[j]? with
  | none => rw [e] at h; cases h
  | some p =>
    obtain ⟨x, y⟩ := p
    rw [e] at h
    have h := Option.some.inj h
    rw [List.getElem?_zip_eq_some] at e
    have h1 : (Sum.inr x : Key) = k := congrArg Prod.fst h
    have h2 : y = v := congrArg Prod.snd h
    subst h1 h2
    exact ⟨x, e.1, e.2, rfl⟩
theorem kvz_merge {ks : List Str} {ws : List V} (l : ks.length = ws.length) (nd : ks.Nodup) : mergeK [] (kvz ks ws) = kvz ks ws := mergeK_nodup _ _ (by
  have : ((kvz ks ws).map (·.1)).Nodup := by
    rw [kvz_keys l]
    exact List.Pairwise.map _ (fun a b h z => h (Sum.inr.inj z)) nd
  simpa using this)
theorem key_at {kvs : List (Key × V)} {ks : List Str} (hk : kvs.map (·.1) = ks.map Sum.inr) {i : Nat} {k : Key} {v : V} (e : kvs[i]? = some (k, v)) : i < ks.length ∧ k = Sum.inr (ks.getD i "") := by
  have kl : kvs.length = ks.length := by have := congrArg List.length hk; simpa using this
  have hi := (List.getElem?_eq_some_iff.mp e).1
  rw [kl] at hi
  refine ⟨hi, ?_⟩
  have e2 := congrArg (fun z => z[i]?) hk
  simp only [List.getElem?_map, e, List.getElem?_eq_getElem hi] at e2
  have e2 : k = Sum.inr ks[i] := by simpa using e2
  rw [e2, List.getD_eq_getElem?_getD, List.getElem?_eq_getElem hi]
  rfl
theorem val_at {H : Hp} : ∀ {kvs : List (Key × V)} {ks : List Str} {ts : List Pt}, kvs.map (·.1) = ks.map Sum.inr → ValL H (kvs.map (·.2)) ts → ks.Nodup → ∀ {i : Nat}, i < ks.length → ∃ v t, valV kvs (Sum.inr (ks.getD i "")) = some v ∧ ts[i]? = some t ∧ Val H v t
  | [], [], _, _, _, _, i, h => by simp at h
  | [], _ :: _, _, h, _, _, _, _ => by simp at h
  | _ :: _, [], _, h, _, _, _, _ => by simp at h
  | (y, v) :: kvs, x :: ks, _, h, .cons h0 r, nd, 0, hi => by
    simp only [List.map_cons, List.cons.injEq] at h
    obtain ⟨e, h⟩ := h
    subst e
    exact ⟨v, _, valV_pos rfl, by simp, h0⟩
  | (y, v) :: kvs, x :: ks, _, h, .cons h0 r, nd, i + 1, hi => by
    simp only [List.map_cons, List.cons.injEq] at h
    obtain ⟨e, h⟩ := h
    subst e
    obtain ⟨n1, n2⟩ := List.nodup_cons.mp nd
    have hi' : i < ks.length := by simpa using hi
    obtain ⟨w, t, g1, g2, g3⟩ := val_at h r n2 hi'
    have eg : (x :: ks).getD (i + 1) "" = ks.getD i "" := by simp
    rw [eg]
    refine ⟨w, t, ?_, by simpa using g2, g3⟩
    rw [valV_neg (fun z => n1 ?_)]
    · exact g1
    · have z := Sum.inr.inj z
      rw [z, List.getD_eq_getElem?_getD, List.getElem?_eq_getElem hi']
      exact List.getElem_mem hi'
mutual
def Pt.wide : Pt → Nat
  | .int _ | .str _ | .bl _ => 0
  | .lst xs | .tup xs => Pt.wideL xs
  | .dct ks xs => max ks.length (Pt.wideL xs)
def Pt.wideL : List Pt → Nat
  | [] => 0
  | x :: r => max (Pt.wide x) (Pt.wideL r)
end
theorem Pt.wideL_mem : ∀ {xs : List Pt} {x : Pt}, x ∈ xs → x.wide ≤ Pt.wideL xs
  | y :: r, x, h => by
    simp only [Pt.wideL]
    rcases List.mem_cons.mp h with rfl | h
    · omega
    · have := Pt.wideL_mem h; omega
theorem Pt.wideL_append (a b : List Pt) : Pt.wideL (a ++ b) = max (Pt.wideL a) (Pt.wideL b) := by
  induction a with
  | nil => simp [Pt.wideL]
  | cons x r ih => simp only [List.cons_append, Pt.wideL, ih]; omega
theorem wideL_of {n : Nat} : ∀ {us : List Pt}, (∀ u ∈ us, u.wide ≤ n) → Pt.wideL us ≤ n
  | [], _ => by simp [Pt.wideL]
  | x :: r, h => by
    have h1 := h x List.mem_cons_self
    have h2 := wideL_of (us := r) fun y hy => h y (List.mem_cons_of_mem _ hy)
    simp only [Pt.wideL]; omega
mutual
theorem Pt.wide_size : ∀ t : Pt, t.doc → t.wide ≤ t.size
  | .int _, _ => by simp [Pt.wide]
  | .str _, _ => by simp [Pt.wide]
  | .bl _, _ => by simp [Pt.wide]
  | .tup _, d => by simp [Pt.doc] at d
  | .lst xs, d => by
    simp only [Pt.doc] at d
    have := Pt.wide_sizeL xs d
    simp only [Pt.wide, Pt.size]; omega
  | .dct ks xs, d => by
    simp only [Pt.doc] at d
    have := Pt.wide_sizeL xs d.2.2.2.2
    have := Pt.lenL xs
    simp only [Pt.wide, Pt.size]; omega
theorem Pt.wide_sizeL : ∀ xs : List Pt, Pt.docL xs → Pt.wideL xs ≤ Pt.sizeL xs
  | [], _ => by simp [Pt.wideL]
  | x :: r, d => by
    simp only [Pt.docL] at d
    have := Pt.wide_size x d.1
    have := Pt.wide_sizeL r d.2
    simp only [Pt.wideL, Pt.sizeL]; omega
end
structure Nms (H : Hp) (n : Addr) (ys : List Str) : Prop where
  at_ : H n = some (.lst (ys.map V.str))
  len : ys.length = 4
  nd : ys.Nodup
  nb : ∀ y ∈ ys, nameB y = true
theorem Nms.up {H H' : Hp} {n : Addr} {ys : List Str} (h : Nms H n ys) (s : Same H H') : Nms H' n ys := ⟨s _ _ h.at_, h.len, h.nd, h.nb⟩
theorem Nms.but {H H' : Hp} {n l : Addr} {ys : List Str} (h : Nms H n ys) (s : Bt (some l) H H') (nl : n ≠ l) : Nms H' n ys := ⟨s.keep _ _ (fun z => nl (Option.some.inj z).symm) h.at_, h.len, h.nd, h.nb⟩
def spNames4 : Sp := fun vs H Q _ => ∃ c : Int, vs = [.int c] ∧ ∀ (p : Addr) (ys : List Str) (H' : Hp), Same H H' → H p = none → Nms H' p ys → Q (.ref p) H'
structure Small (H H' : Hp) (v : V) (t : Pt) : Prop where
  val : Val (nw H H') v t
  sm : Sm t
  doc : t.doc
  size : t.size ≤ 4
  deep : t.deep ≤ 2
def spDocV : Sp := fun vs H Q _ => ∃ (c : Int) (k : Nat) (n : Addr) (ys : List Str), vs = [.int c, .int (k : Int), .ref n] ∧ k ≤ 1000 ∧ Nms H n ys ∧ ∀ (v : V) (t : Pt) (H' : Hp), Same H H' → Small H H' v t → Q v H'
def spCopyV (n : Nat) : Sp := fun vs H Q _ => ∃ (v : V) (t : Pt), vs = [v] ∧ Val H v t ∧ t.nice ∧ t.deep ≤ n ∧ ∀ (w : V) (H' : Hp), Same H H' → Val (nw H H') w t → Q w H'
def spLets (n : Nat) : Sp := fun vs H Q _ => ∃ (v y : V) (a : Ak) (t : Pt), vs = [v, y] ∧ Val H v a.pt ∧ Val H y t ∧ a.ok ∧ t.doc ∧ a.size ≤ 900 ∧ t.size ≤ 900 ∧ a.deep ≤ n ∧ ∀ H', Same H H' → Q (.bl (Ak.lets a t)) H'
def spAsks (n : Nat) : Sp := fun vs H Q _ => ∃ (l : Addr) (d : Nat) (nm : Addr) (cs : List Int) (ys : List Str), vs = [.ref l, .int (d : Int), .ref nm] ∧ d + 4 ≤ n ∧ H l = some (.lst (cs.map V.int)) ∧ cs.length ≤ 100 ∧ nm ≠ l ∧ Nms H nm ys ∧
  ∀ (v : V) (a : Ak) (cs' : List Int) (H' : Hp), Bt (some l) H H' → H' l = some (.lst (cs'.map V.int)) → cs'.length ≤ cs.length → Val (nw H H') v a.pt → a.ok → a.size ≤ 1 + 4 * (cs.length - cs'.length) → a.deep ≤ d + 1 → Q v H'
def spFit (n : Nat) : Sp := fun vs H Q _ => ∃ (w : V) (a : Ak) (l nm : Addr) (cs : List Int) (ys : List Str), vs = [w, .ref l, .ref nm] ∧ Val (hid l H) w a.pt ∧ a.ok ∧ a.deep + 8 ≤ n ∧ a.size ≤ 100 ∧ H l = some (.lst (cs.map V.int)) ∧ cs.length ≤ 100 ∧ nm ≠ l ∧ Nms H nm ys ∧
  ∀ (v : V) (t : Pt) (cs' : List Int) (H' : Hp), Bt (some l) H H' → H' l = some (.lst (cs'.map V.int)) → cs'.length ≤ cs.length → Val (nw H H') v t → t.doc → t.size ≤ 10 * a.size → t.deep ≤ a.deep + 2 → t.wide ≤ 61 → Q v H'
def ov (G H H' : Hp) : Hp := fun b => match G b with
  | some o => some o
  | none => nw H H' b
theorem ov_old {G H H' : Hp} : Same G (ov G H H') := fun b o e => by unfold ov; rw [e]
def spBent (n : Nat) : Sp := fun vs H Q _ => ∃ (G : Hp) (v : V) (t : Pt) (c : Int) (d : Nat) (nm : Addr) (ys : List Str) (B : Nat), vs = [v, .int c, .int (d : Int), .ref nm] ∧ Same G H ∧ Val G v t ∧ t.doc ∧ t.size ≤ 800 ∧ t.deep ≤ 40 ∧ 12 ≤ d + n ∧ d ≤ 5 ∧ Nms H nm ys ∧ 10 ≤ B ∧ B ≤ 62 ∧ t.wide ≤ B ∧
  ∀ (w : V) (t' : Pt) (H' : Hp), Same H H' → Val (ov G H H') w t' → t'.doc → t'.size ≤ t.size + 4 → t'.deep ≤ t.deep + 2 → t'.wide ≤ B + 1 → Q w H'
def spLarge : Sp := fun vs H Q _ => ∃ (v : V) (a : Ak) (c : Int) (nm : Addr) (ys : List Str), vs = [v, .int c, .ref nm] ∧ Val H v a.pt ∧ a.ok ∧ a.size ≤ 57 ∧ a.deep ≤ 5 ∧ Nms H nm ys ∧
  ∀ (w : V) (b : Ak) (H' : Hp), Same H H' → Val H' w b.pt → b.ok → b.size ≤ 70 → b.deep ≤ 15 → Q w H'
end L2

set_option Elab.async false
set_option linter.all false
set_option maxRecDepth 100000
set_option maxHeartbeats 4000000
namespace L2
open PySem PySem.Spec PyProof.Rows
theorem is_in {kws : List (Key × V)} {ns : List Str} (hk : kws.map (·.1) = ns.map Sum.inr) (k : Str) : (valV kws (Sum.inr k)).isSome = decide (k ∈ ns) := by
  rw [Bool.eq_iff_iff, decide_eq_true_iff]
  have mi : (Sum.inr k : Key) ∈ kws.map (·.1) ↔ k ∈ ns := by
    rw [hk]
    constructor
    · intro h
      obtain ⟨y, hy, e⟩ := List.mem_map.mp h
      rw [← Sum.inr.inj e]; exact hy
    · exact fun h => List.mem_map_of_mem h
  rw [← mi]
  cases e : valV kws (Sum.inr k : Key) with
  | none => simp only [Option.isSome_none]; exact ⟨(fun h => nomatch h), fun h => absurd h (valV_not e)⟩
  | some z => simp only [Option.isSome_some]; exact ⟨fun _ => valV_in e, fun _ => trivial⟩
theorem range_get (ns : List Str) (p : Str → Bool) : ((List.range ns.length).filter fun i => p (ns.getD i "")).map (fun i => V.str (ns.getD i "")) = (ns.filter p).map V.str := by
  induction ns with
  | nil => rfl
  | cons x r ih =>
    rw [List.length_cons, List.range_succ_eq_map, List.filter_cons, List.filter_cons, List.filter_map, List.getD_cons_zero]
    have e : ((fun i => p ((x :: r).getD i "")) ∘ Nat.succ) = fun i => p (r.getD i "") := by funext i; simp
    have e2 : ((fun i => V.str ((x :: r).getD i "")) ∘ Nat.succ) = fun i => V.str (r.getD i "") := by funext i; simp
    cases p x with
    | true => simp only [if_true, List.map_cons, List.map_map]; rw [e, e2, ih]; rfl
    | false => simp only [Bool.false_eq_true, if_false, List.map_map]; rw [e, e2, ih]
theorem list_bl {α : Type} {ps : List α} {f : α → Bool} : ∀ {vs : List V}, vs.length = ps.length → (∀ (i : Nat) v, vs[i]? = some v → ∃ p, ps[i]? = some p ∧ v = .bl (f p)) → vs = (ps.map f).map V.bl := by
  intro vs l h
  refine List.ext_getElem (by simp [l]) fun i h1 h2 => ?_
  obtain ⟨p, e1, e2⟩ := h i _ (List.getElem?_eq_getElem h1)
  have hp : i < ps.length := by omega
  rw [List.getElem?_eq_getElem hp] at e1
  have e1 := Option.some.inj e1
  rw [e2, ← e1]
  simp
theorem flt_split (p : Str → Bool) : ∀ l : List Str, l.length = (l.filter fun x => !p x).length + (l.filter p).length
  | [] => rfl
  | x :: r => by
    have := flt_split p r
    cases h : p x <;> simp [List.filter_cons, h] <;> omega
theorem cntK {ks ns : List Str} (nk : ks.Nodup) (nn : ns.Nodup) : ns.length = (ns.filter fun n => !decide (n ∈ ks)).length + (ks.filter fun k => decide (k ∈ ns)).length := by
  have pm : (ns.filter fun n => decide (n ∈ ks)).Perm (ks.filter fun k => decide (k ∈ ns)) := by
    refine (List.perm_ext_iff_of_nodup (nn.sublist List.filter_sublist) (nk.sublist List.filter_sublist)).mpr fun x => ?_
    simp only [List.mem_filter, decide_eq_true_eq]
    exact And.comm
  have := flt_split (fun n => decide (n ∈ ks)) ns
  have e := pm.length_eq
  omega
theorem allK_filter {ks ns : List Str} : ks.all (fun k => decide (k ∈ ns)) = decide ((ks.filter fun k => decide (k ∈ ns)).length = ks.length) := by
  rw [Bool.eq_iff_iff, decide_eq_true_iff, List.length_filter_eq_length_iff, List.all_eq_true]
theorem lets_tab {ks ns ls : List Str} (m : Bool) (nk : ks.Nodup) (nn : ns.Nodup) (dj : ∀ l ∈ ls, l ∉ ks) :
    (ks.all (fun k => decide (k ∈ ns)) && !(ls.any fun k => decide (k ∈ ns)) && Ak.cnt ns.length ks.length m) =
    (!(decide (((ns.length : Nat) : Int) - (((ns.filter fun n => !decide (n ∈ ks)).length : Nat) : Int) < ((ks.length : Nat) : Int))) && (m || (ns.filter fun n => !decide (n ∈ ks)).isEmpty) && ((ns.filter fun n => !decide (n ∈ ks)).filter fun n => decide (n ∈ ls)).isEmpty) := by
  have c := cntK nk nn
  have le : (ks.filter fun k => decide (k ∈ ns)).length ≤ ks.length := List.length_filter_le _ _
  rw [allK_filter]
  by_cases h : (ks.filter fun k => decide (k ∈ ns)).length = ks.length
  · have h1 : ¬ ((ns.length : Nat) : Int) - (((ns.filter fun n => !decide (n ∈ ks)).length : Nat) : Int) < ((ks.length : Nat) : Int) := by omega
    rw [decide_eq_true h, decide_eq_false h1, Bool.true_and, Bool.not_false, Bool.true_and]
    have e1 : Ak.cnt ns.length ks.length m = (m || (ns.filter fun n => !decide (n ∈ ks)).isEmpty) := by
      cases ho : (ns.filter fun n => !decide (n ∈ ks)) with
      | nil =>
        rw [ho, List.length_nil] at c
        have : ns.length = ks.length := by omega
        simp [Ak.cnt, this]
      | cons a r =>
        rw [ho, List.length_cons] at c
        have : ks.length < ns.length := by omega
        have e : (ns.length == ks.length) = false := by simp; omega
        simp [Ak.cnt, this, e]
    have e2 : (!(ls.any fun k => decide (k ∈ ns))) = ((ns.filter fun n => !decide (n ∈ ks)).filter fun n => decide (n ∈ ls)).isEmpty := by
      rw [Bool.eq_iff_iff, List.isEmpty_iff, List.filter_eq_nil_iff, Bool.not_eq_true', ← Bool.not_eq_true, List.any_eq_true]
      constructor
      · intro h a ha hl
        exact h ⟨a, of_decide_eq_true hl, decide_eq_true (List.mem_filter.mp ha).1⟩
      · intro h ⟨l, hl, hn⟩
        have hn := of_decide_eq_true hn
        exact h l (List.mem_filter.mpr ⟨hn, by simpa using dj l hl⟩) (decide_eq_true hl)
    rw [e1, e2, Bool.and_comm]
  · have h1 : ((ns.length : Nat) : Int) - (((ns.filter fun n => !decide (n ∈ ks)).length : Nat) : Int) < ((ks.length : Nat) : Int) := by omega
    rw [decide_eq_false h, decide_eq_true h1]
    simp
end L2

set_option Elab.async false
set_option linter.all false
set_option maxRecDepth 100000
set_option maxHeartbeats 4000000
namespace L2
open PySem PySem.Spec PyProof.Rows
section
variable {X : Cx}
theorem strsAre_vals {ss : List Str} : ∀ {us : List Value}, Vals (ss.map V.str) us → StrsAre us ss := by
  induction ss with
  | nil => intro us h; cases h; exact .nil
  | cons x r ih =>
    intro us h
    cases h with
    | cons h1 h2 =>
      obtain ⟨t, rfl⟩ := h1
      exact .cons x t (ih h2)
inductive rSortL (K : PySem.W.Frag) (xs : List V) (H : Hp) (Q : VK) : Prop
  | mk (d : Addr) (ss : List Str) (h0_ : xs = [.ref d]) (h1_ : SqL K H d (ss.map V.str)) (h3_ : ss.length < 64) (h4_ : ∀ (p : Addr) (ss' : List Str) (H' : Hp), H p = none → Same H H' → H' p = some (.lst (ss'.map V.str)) → ss'.Perm ss → sortedS ss' = true → Q (.ref p) H') : rSortL K xs H Q
theorem call_sortedL (hc : X.calm = true) : CallR X (.builtin "sorted") (rSortL X.K) := by
  intro pins s σ H xs us Q I r h
  obtain ⟨d, ss, rfl, hd, h64, q⟩ := h
  obtain ⟨u, rfl, ru⟩ := vals1 r
  cases ru
  obtain ⟨its, rv, pl, hz⟩ := I.list hd
  obtain ⟨ob, hob, hob1, hn, hob2⟩ := id pl.isList
  have hl : its.length = ss.length := by rw [← rv.length, List.length_map]
  have hz : its.length ≤ sizeLine := Nat.le_of_lt (small1000 (by omega))
  have hS : StrsAre its ss := strsAre_vals rv
  refine Calls.call_function_entry kind_sorted plain_sorted entry_sorted (args_sorted1 _) ?_
  unfold Builtin.«sorted»
  refine wpAny_bind (m := checkCount "sorted" 1 1 _) (wpAny_pure (wpAny_bind (wpAny_collect_seq d (.inl rfl) hob hob1 hob2 (fun h' keep => ?_) (by rw [List.size_toArray]; exact hz))))
  rw [List.toList_toArray]
  refine wpAny_bind (wpAny_newList ?_ hz)
  have hnew : (h'.push { cls := .type "list", data := .seq its.toArray }).get? h'.objs.size = some (seqObj "list" its.toArray 0) := Heap.get?_push_size _ rfl
  refine wpAny_bind (wpAny_holding (wpAny_call_entry slot_list_sort ⟨_, hnew, rfl⟩ entry_list_sort (list_sort_treeK strKind_oneLt hnew hS.keysOf (fun v₁ v₂ rest e => keyKind_strs (by rw [← e]; exact hS)) (by rw [hl]; exact h64) fun st' a1 a2 => ⟨_, rfl, ?_⟩) (args_list_sort _)))
  obtain ⟨ss', b1, b2, b3⟩ := sorted_out_str hS a1 a2
  obtain ⟨ee, he⟩ := sortedHeap_at (out := (arrOf st').map (·.2)) hnew
  refine wpAny_pure ⟨_, rfl, ?_⟩
  have szp : (h'.push { cls := .type "list", data := .seq its.toArray }).objs.size = h'.objs.size + 1 := size_push' ..
  have I1 := I.kept (t' := s.toks) keep
  have k2 : ∀ b o, h'.get? b = some o → (sortedHeap (h'.push { cls := .type "list", data := .seq its.toArray }) h'.objs.size its ((arrOf st').map (·.2))).get? b = some o := fun b o e => by
    have hb : b < h'.objs.size := Heap.lt_size e
    rw [sortedHeap_old (Nat.ne_of_lt hb) (by rw [szp]; exact Nat.lt_succ_of_lt hb)]
    exact Heap.get?_push_of_some _ e
  have hss : ss'.length ≤ sizeLine := by
    rw [b2.length_eq, ← hl]
    exact hz
  have new : ObjOk X.prog X.w (upd H h'.objs.size (.lst (ss'.map V.str))) (sortedHeap (h'.push { cls := .type "list", data := .seq its.toArray }) h'.objs.size its ((arrOf st').map (·.2))) h'.objs.size (.lst (ss'.map V.str)) :=
    ⟨by rw [List.length_map]; exact hss, ((arrOf st').map (·.2)).toList, ee, vals_strs b1, by rw [Array.toArray_toList]; exact he⟩
  have hf : H h'.objs.size = none := I1.fresh
  exact ⟨.ref h'.objs.size, _, I1.laid (t' := s.toks) k2 (Nat.le_refl _) new, rfl, q _ ss' _ hf (Same.new hf) upd_same b2 b3⟩
inductive rListD (xs : List V) (H : Hp) (Q : VK) : Prop
  | mk (d : Addr) (kv : List (Key × V)) (ss : List Str) (h0_ : xs = [.ref d]) (h1_ : Rd H d (.dK kv)) (h2_ : kv.map (·.1) = ss.map Sum.inr) (h4_ : ∀ (p : Addr), H p = none → Q (.ref p) (upd H p (.lst (ss.map V.str)))) : rListD xs H Q
theorem call_list_dict (hc : X.calm = true) : CallR X (.type "list") rListD := by
  intro pins s σ H xs us Q I r h
  obtain ⟨d, kv, ss, rfl, hd, hk, q⟩ := h
  obtain ⟨u, rfl, ru⟩ := vals1 r
  cases ru
  obtain ⟨z, hm, vs, rel, dd⟩ := dk_rd I.hok hd
  have hlv : vs.length = kv.length := rel.length.symm
  have hkv : vs.map (·.1) = ss.map Sum.inr := by rw [← hk]; exact (KV.keys rel).symm
  obtain ⟨ep, hat⟩ := dd.dictAt
  have hz : vs.length ≤ sizeLine := by rw [hlv]; exact z
  refine PySem.W.kdl_call (PySem.W.kdl_dict (knd := mixKind X.prog X.w) (kvs := vs) (ep := ep) hm) (I.ok.hd hc) hat hz fun h' tk acc c' kp e' items => ?_
  have hl : acc.toList.length = vs.length := by rw [Array.length_toList]; exact items.1
  have hS : StrsAre acc.toList ss := keys_strs (P := X.prog) (w := X.w) hkv hl fun j v e => items.2 j v (by rw [← Array.getElem?_toList]; exact e)
  have ls : ss.length ≤ sizeLine := by
    have := congrArg List.length hkv
    rw [List.length_map, List.length_map] at this
    rw [← this]; exact hz
  exact ⟨.ref s.heap.objs.size, _, I.laid (t' := tk) kp (Nat.le_refl _) (show ObjOk X.prog X.w _ h' _ (.lst _) from ⟨by rw [List.length_map]; exact ls, acc.toList, c', vals_strs hS, by rw [Array.toArray_toList]; exact e'⟩), rfl, q _ I.fresh⟩
end
end L2

set_option Elab.async false
set_option linter.all false
set_option maxRecDepth 100000
set_option maxHeartbeats 4000000
namespace L2
open PySem PySem.Spec PyProof.Rows
namespace Ak
theorem ptL_append (a b : List Ak) : ptL (a ++ b) = ptL a ++ ptL b := by simp [ptL_map]
theorem sizeL_append (a b : List Ak) : sizeL (a ++ b) = sizeL a + sizeL b := by
  induction a with
  | nil => simp [sizeL]
  | cons x r ih => simp only [List.cons_append, sizeL, ih]; omega
theorem deepL_append (a b : List Ak) : deepL (a ++ b) = max (deepL a) (deepL b) := by
  induction a with
  | nil => simp [deepL]
  | cons x r ih => simp only [List.cons_append, deepL, ih]; omega
theorem okL_append {a b : List Ak} (h : okL a) (g : okL b) : okL (a ++ b) := okL_of fun x hx => (List.mem_append.mp hx).elim (okL_mem h x) (okL_mem g x)
theorem sizeL_one (a : Ak) : sizeL [a] = a.size := by simp [sizeL]
theorem deepL_one (a : Ak) : deepL [a] = a.deep := by simp [deepL]
theorem okL_one {a : Ak} (h : a.ok) : okL [a] := ⟨h, trivial⟩
end Ak
theorem kvz_append {ks : List Str} {ws : List V} (l : ks.length = ws.length) (y : Str) (v : V) : kvz (ks ++ [y]) (ws ++ [v]) = kvz ks ws ++ [(Sum.inr y, v)] := by
  unfold kvz
  rw [List.zip_append l, List.map_append]
  rfl
theorem kvz_put {ks : List Str} {ws : List V} (l : ks.length = ws.length) {y : Str} (h : y ∉ ks) (v : V) : putK (kvz ks ws) (Sum.inr y) v = kvz (ks ++ [y]) (ws ++ [v]) := by
  rw [kvz_append l, putK_new]
  have := is_in (kvz_keys l) y
  rw [decide_eq_false h] at this
  cases e : valV (kvz ks ws) (Sum.inr y : Key) with
  | none => rfl
  | some z => rw [e] at this; cases this
structure TabI (H H4 : Hp) (l p6 p7 : Addr) (ys : List Str) (d N : Nat) (i : Nat) (Hi : Hp) (ks : List Str) (as : List Ak) (ls : List Str) (cs' : List Int) (ws : List V) : Prop where
  n6 : H p6 = none
  n7 : H p7 = none
  o6 : H4 p6 ≠ none
  o7 : H4 p7 ≠ none
  ne : p6 ≠ p7
  hl : H l ≠ none
  h4 : ∀ b, H4 b = none → H b = none
  bt : Bt (some l) H Hi
  dm : ∀ b, Hi b = none → H4 b = none
  e6 : Hi p6 = some (.dK (kvz ks ws))
  e7 : Hi p7 = some (.lst (ls.map V.str))
  el : Hi l = some (.lst (cs'.map V.int))
  le : cs'.length ≤ N
  lw : ks.length = ws.length
  la : ks.length = as.length
  vl : ValL (nw H4 Hi) ws (Ak.ptL as)
  ok : Ak.okL as
  sz : Ak.sizeL as ≤ i + 4 * (N - cs'.length)
  dp : Ak.deepL as ≤ d
  ik : ∀ k ∈ ks, ∃ j, j < i ∧ ys[j]? = some k
  il : ∀ k ∈ ls, ∃ j, j < i ∧ ys[j]? = some k
  nk : ks.Nodup
  dj : ∀ x ∈ ls, x ∉ ks
  l4 : ks.length ≤ i
  m4 : ls.length ≤ i
section
variable {H H4 : Hp} {l p6 p7 : Addr} {ys : List Str} {d N : Nat} {i : Nat} {Hi : Hp} {ks : List Str} {as : List Ak} {ls : List Str} {cs' : List Int} {ws : List V}
theorem TabI.up {H' : Hp} (t : TabI H H4 l p6 p7 ys d N i Hi ks as ls cs' ws) (s : Same Hi H') : TabI H H4 l p6 p7 ys d N i H' ks as ls cs' ws :=
  { t with bt := t.bt.trans (.of s), dm := fun b h => t.dm b (s.free h), e6 := s _ _ t.e6, e7 := s _ _ t.e7, el := s _ _ t.el, vl := t.vl.up (nw_up (fun b h => h) fun b e _ h => s _ _ h) }
theorem TabI.weak (t : TabI H H4 l p6 p7 ys d N i Hi ks as ls cs' ws) : TabI H H4 l p6 p7 ys d N (i + 1) Hi ks as ls cs' ws :=
  { t with sz := by have := t.sz; omega, ik := fun k hk => let ⟨j, h1, h2⟩ := t.ik k hk; ⟨j, by omega, h2⟩, il := fun k hk => let ⟨j, h1, h2⟩ := t.il k hk; ⟨j, by omega, h2⟩, l4 := by have := t.l4; omega, m4 := by have := t.m4; omega }
theorem TabI.fresh (t : TabI H H4 l p6 p7 ys d N i Hi ks as ls cs' ws) {y : Str} (hy : ys[i]? = some y) (nd : ys.Nodup) : y ∉ ks ∧ y ∉ ls := by
  have hi := (List.getElem?_eq_some_iff.mp hy).1
  have inj : ∀ j, j < i → ys[j]? = some y → False := fun j h1 h2 => by
    rw [← hy] at h2
    have := (List.getElem?_inj (by omega) nd).mp h2
    omega
  exact ⟨fun h => let ⟨j, h1, h2⟩ := t.ik y h; inj j h1 h2, fun h => let ⟨j, h1, h2⟩ := t.il y h; inj j h1 h2⟩
theorem TabI.lack (t : TabI H H4 l p6 p7 ys d N i Hi ks as ls cs' ws) {y : Str} (hy : ys[i]? = some y) (nd : ys.Nodup) : TabI H H4 l p6 p7 ys d N (i + 1) (upd Hi p7 (.lst (ls.map V.str ++ [.str y]))) ks as (ls ++ [y]) cs' ws := by
  have f := t.fresh hy nd
  have l7 : l ≠ p7 := fun z => t.hl (by rw [z]; exact t.n7)
  exact { t.weak with
    bt := t.bt.new t.n7
    dm := fun b h => t.dm b (upd_none h).2
    e6 := by rw [upd_ne t.ne]; exact t.e6
    e7 := by rw [upd_same, List.map_append]; rfl
    el := by rw [upd_ne l7]; exact t.el
    vl := t.vl.up (nw_up (fun b h => h) fun b e h1 h2 => by rw [upd_ne (fun z => t.o7 (by rw [← z]; exact h1))]; exact h2)
    il := fun k hk => (List.mem_append.mp hk).elim (fun h => t.weak.il k h) fun h => ⟨i, by omega, by rw [List.mem_singleton.mp h]; exact hy⟩
    dj := fun x hx => (List.mem_append.mp hx).elim (fun h => t.dj x h) fun h => by rw [List.mem_singleton.mp h]; exact f.1
    m4 := by have := t.m4; simp; omega }
theorem TabI.asked {H' : Hp} {v : V} {a : Ak} {cs2 : List Int} (t : TabI H H4 l p6 p7 ys d N i Hi ks as ls cs' ws) {y : Str} (hy : ys[i]? = some y) (nd : ys.Nodup) (bt : Bt (some l) Hi H') (el : H' l = some (.lst (cs2.map V.int))) (le : cs2.length ≤ cs'.length) (vv : Val (nw Hi H') v a.pt) (ok : a.ok) (sz : a.size ≤ 1 + 4 * (cs'.length - cs2.length)) (dp : a.deep ≤ d) :
    H' p6 = some (.dK (kvz ks ws)) ∧ putK (kvz ks ws) (Sum.inr y) v = kvz (ks ++ [y]) (ws ++ [v]) ∧ TabI H H4 l p6 p7 ys d N (i + 1) (upd H' p6 (.dK (kvz (ks ++ [y]) (ws ++ [v])))) (ks ++ [y]) (as ++ [a]) ls cs2 (ws ++ [v]) := by
  have f := t.fresh hy nd
  have l6 : l ≠ p6 := fun z => t.hl (by rw [z]; exact t.n6)
  have l7 : l ≠ p7 := fun z => t.hl (by rw [z]; exact t.n7)
  have e6 := bt.keep _ _ (fun z => l6 (Option.some.inj z)) t.e6
  have e7 := bt.keep _ _ (fun z => l7 (Option.some.inj z)) t.e7
  refine ⟨e6, kvz_put t.lw f.1 v, { t.weak with
    bt := (t.bt.trans bt).new t.n6
    dm := fun b h => t.dm b (bt.dom b (upd_none h).2)
    e6 := upd_same
    e7 := by rw [upd_ne (Ne.symm t.ne)]; exact e7
    el := by rw [upd_ne l6]; exact el
    le := Nat.le_trans le t.le
    lw := by have := t.lw; simp [this]
    la := by have := t.la; simp [this]
    vl := ?_
    ok := Ak.okL_append t.ok (Ak.okL_one ok)
    sz := by
      rw [Ak.sizeL_append, Ak.sizeL_one]
      have := t.sz
      have := t.le
      omega
    dp := by rw [Ak.deepL_append, Ak.deepL_one]; have := t.dp; omega
    ik := fun k hk => (List.mem_append.mp hk).elim (fun h => t.weak.ik k h) fun h => ⟨i, by omega, by rw [List.mem_singleton.mp h]; exact hy⟩
    nk := by
      rw [List.nodup_append]
      refine ⟨t.nk, by simp, fun a ha b hb z => ?_⟩
      rw [List.mem_singleton.mp hb] at z
      rw [z] at ha
      exact f.1 ha
    dj := fun x hx h => (List.mem_append.mp h).elim (fun h => t.dj x hx h) fun h => by
      rw [List.mem_singleton.mp h] at hx
      exact f.2 hx
    l4 := by have := t.l4; simp; omega }⟩
  rw [Ak.ptL_append]
  refine (t.vl.up (nw_up (fun b h => h) fun b e h1 h2 => ?_)).snoc (vv.up (nw_up (fun b h => t.dm b h) fun b e h1 h2 => ?_))
  · have hb : b ≠ p6 := fun z => t.o6 (by rw [← z]; exact h1)
    rw [upd_ne hb]
    exact bt.keep b e (fun z => t.hl (by rw [Option.some.inj z]; exact t.h4 b h1)) h2
  · have hb : b ≠ p6 := fun z => by rw [z, t.e6] at h1; cases h1
    rw [upd_ne hb]
    exact h2
end
theorem Sm0.deepL_le : ∀ {xs : List Pt}, (∀ x ∈ xs, Sm0 x) → Pt.deepL xs ≤ 1
  | [], _ => by simp [Pt.deepL]
  | x :: r, h => by
    have h1 := h x List.mem_cons_self
    have h2 := Sm0.deepL_le (xs := r) fun y hy => h y (List.mem_cons_of_mem _ hy)
    have : x.deep ≤ 1 := by cases h1 <;> simp [Pt.deep, Pt.deepL]
    simp only [Pt.deepL]; omega
theorem Sm.deep_le {d : Pt} (h : Sm d) : d.deep ≤ 2 := by
  cases h with
  | one h => cases h <;> simp [Pt.deep, Pt.deepL]
  | row h => have := Sm0.deepL_le h; simp only [Pt.deep]; omega
  | tab h => have := Sm0.deepL_le h; simp only [Pt.deep]; omega
theorem Pt.docL_append {a b : List Pt} (h : Pt.docL a) (g : Pt.docL b) : Pt.docL (a ++ b) := Pt.docL_of fun x hx => (List.mem_append.mp hx).elim (Pt.docL_mem h x) (Pt.docL_mem g x)
theorem Pt.deepL_append (a b : List Pt) : Pt.deepL (a ++ b) = max (Pt.deepL a) (Pt.deepL b) := by
  induction a with
  | nil => simp [Pt.deepL]
  | cons x r ih => simp only [List.cons_append, Pt.deepL, ih]; omega
def Smalls (us : List Pt) : Prop := ∀ u ∈ us, u.doc ∧ u.size ≤ 4 ∧ u.deep ≤ 2
theorem Smalls.size : ∀ {us : List Pt}, Smalls us → Pt.sizeL us ≤ 4 * us.length
  | [], _ => by simp [Pt.sizeL]
  | x :: r, h => by
    have h1 := h x List.mem_cons_self
    have h2 := Smalls.size (us := r) fun y hy => h y (List.mem_cons_of_mem _ hy)
    simp only [Pt.sizeL, List.length_cons]; omega
theorem Smalls.deep : ∀ {us : List Pt}, Smalls us → Pt.deepL us ≤ 2
  | [], _ => by simp [Pt.deepL]
  | x :: r, h => by
    have h1 := h x List.mem_cons_self
    have h2 := Smalls.deep (us := r) fun y hy => h y (List.mem_cons_of_mem _ hy)
    simp only [Pt.deepL]; omega
theorem Smalls.docs {us : List Pt} (h : Smalls us) : Pt.docL us := Pt.docL_of fun x hx => (h x hx).1
theorem seq_c {v : V} {i : Nat} {u : TS} {D : Ends} {σ : St} {H : Hp} (h : u D (σ.set i (some v)) H) : tSeq (tAsg (tC v) (gName i)) u D σ H := h
theorem repl_any {G : Hp} {y : Str} {v : V} {t : Pt} (hv : Val G v t) : ∀ {ks : List Str} {ws : List V} {us : List Pt}, ks.length = ws.length → ks.Nodup → ValL G ws us → ∃ (ws2 : List V) (us2 : List Pt), (kvz ks ws).map (fun kv => if kv.1 = (Sum.inr y : Key) then (kv.1, v) else kv) = kvz ks ws2 ∧ ks.length = ws2.length ∧ ValL G ws2 us2 ∧ (∀ u ∈ us2, u ∈ us ∨ u = t) ∧ Pt.sizeL us2 ≤ Pt.sizeL us + (if y ∈ ks then t.size else 0)
  | [], [], _, _, _, .nil => ⟨[], [], rfl, rfl, .nil, (fun u h => nomatch h), by simp⟩
  | [], _ :: _, _, l, _, _ => by simp at l
  | _ :: _, [], _, l, _, _ => by simp at l
  | k :: ks, w :: ws, _, l, nd, .cons (t := u) (ts := us) h r => by
    obtain ⟨n1, n2⟩ := List.nodup_cons.mp nd
    obtain ⟨ws2, us2, e1, e2, e3, e4, e5⟩ := repl_any (y := y) hv (ks := ks) (ws := ws) (by simpa using l) n2 r
    have ek : kvz (k :: ks) (w :: ws) = (Sum.inr k, w) :: kvz ks ws := rfl
    by_cases hk : k = y
    · subst hk
      refine ⟨v :: ws2, t :: us2, ?_, by simp [e2], .cons hv e3, fun x hx => ?_, ?_⟩
      · rw [ek, List.map_cons, e1, if_pos rfl]; rfl
      · rcases List.mem_cons.mp hx with rfl | hx
        · exact .inr rfl
        · exact (e4 x hx).imp (List.mem_cons_of_mem _) id
      · rw [if_neg n1] at e5
        rw [if_pos List.mem_cons_self]
        simp only [Pt.sizeL]; omega
    · refine ⟨w :: ws2, u :: us2, ?_, by simp [e2], .cons h e3, fun x hx => ?_, ?_⟩
      · rw [ek, List.map_cons, e1, if_neg (fun z => hk (Sum.inr.inj z))]; rfl
      · rcases List.mem_cons.mp hx with rfl | hx
        · exact .inl List.mem_cons_self
        · exact (e4 x hx).imp (List.mem_cons_of_mem _) id
      · have : (y ∈ k :: ks) ↔ y ∈ ks := by
          constructor
          · intro h; exact (List.mem_cons.mp h).resolve_left (fun z => hk z.symm)
          · exact List.mem_cons_of_mem _
        simp only [this, Pt.sizeL]; omega
theorem put_any {G : Hp} {y : Str} {v : V} {t : Pt} (hv : Val G v t) {ks : List Str} {ws : List V} {us : List Pt} (l : ks.length = ws.length) (nd : ks.Nodup) (h : ValL G ws us) : ∃ (ks2 : List Str) (ws2 : List V) (us2 : List Pt), putK (kvz ks ws) (Sum.inr y) v = kvz ks2 ws2 ∧ ks2.length = ws2.length ∧ ks2.Nodup ∧ ValL G ws2 us2 ∧ (∀ k ∈ ks2, k ∈ ks ∨ k = y) ∧ (∀ u ∈ us2, u ∈ us ∨ u = t) ∧ Pt.sizeL us2 ≤ Pt.sizeL us + t.size ∧ ks2.length ≤ ks.length + 1 ∧ (∀ k ∈ ks, k ∈ ks2) := by
  by_cases hy : y ∈ ks
  · obtain ⟨ws2, us2, e1, e2, e3, e4, e5⟩ := repl_any hv (y := y) l nd h
    refine ⟨ks, ws2, us2, ?_, e2, nd, e3, fun k hk => .inl hk, e4, by rw [if_pos hy] at e5; exact e5, by omega, fun k hk => hk⟩
    unfold putK
    rw [if_pos, e1]
    rw [valV_any, is_in (kvz_keys l)]
    exact decide_eq_true hy
  · refine ⟨ks ++ [y], ws ++ [v], us ++ [t], kvz_put l hy v, by simp [l], ?_, h.snoc hv, fun k hk => ?_, fun u hu => ?_, ?_, by simp, fun k hk => List.mem_append_left _ hk⟩
    · rw [List.nodup_append]
      refine ⟨nd, by simp, fun a ha b hb z => ?_⟩
      rw [List.mem_singleton.mp hb] at z
      rw [z] at ha
      exact hy ha
    · exact (List.mem_append.mp hk).imp id List.mem_singleton.mp
    · exact (List.mem_append.mp hu).imp id List.mem_singleton.mp
    · rw [Pt.sizeL_append]; simp only [Pt.sizeL]; omega
theorem deepL_of {n : Nat} : ∀ {us : List Pt}, (∀ u ∈ us, u.deep ≤ n) → Pt.deepL us ≤ n
  | [], _ => by simp [Pt.deepL]
  | x :: r, h => by
    have h1 := h x List.mem_cons_self
    have h2 := deepL_of (us := r) fun y hy => h y (List.mem_cons_of_mem _ hy)
    simp only [Pt.deepL]; omega
end L2

set_option Elab.async false
set_option linter.all false
set_option maxRecDepth 100000
set_option maxHeartbeats 4000000
namespace L2
open PySem PySem.Spec PyProof.Rows
section
variable {X : Cx}
inductive rCatR (x : V) (y : V) (H : Hp) (Q : VK) : Prop
  | mk (l b : Addr) (xs zs : List V) (x0 : x = .ref l) (x1 : y = .ref b) (x2 : Rd H l (.lst xs)) (x3 : Rd H b (.lst zs)) (x4 : xs.length + zs.length ≤ sizeLine) (x5 : ∀ p, H p = none → Q (.ref p) (upd H p (.lst (xs ++ zs)))) : rCatR x y H Q
theorem op_catR : OpR X (binaryOp .Add) rCatR := by
  intro pins s σ H x y v u Q I rx ry h
  obtain ⟨l, b, xs, zs, rfl, rfl, hH, hB, hz, q⟩ := h
  cases rx
  cases ry
  obtain ⟨z, its, n, r, e⟩ := hH.ok I.hok
  obtain ⟨z2, its2, n2, r2, e2⟩ := hB.ok I.hok
  have hl := r.length
  have hl2 := r2.length
  refine PySem.P.add_list e e2 ?_ (by rw [List.size_toArray, List.size_toArray]; omega)
  have ea : its.toArray ++ its2.toArray = (its ++ its2).toArray := by simp
  rw [ea]
  exact ⟨.ref _, _, I.lnew (t' := s.toks) (r.append r2) (by rw [List.length_append]; omega), rfl, q _ I.fresh⟩
end
theorem kvz_of : ∀ {kvs : List (Key × V)} {ks : List Str}, kvs.map (·.1) = ks.map Sum.inr → kvs = kvz ks (kvs.map (·.2))
  | [], [], _ => rfl
  | [], _ :: _, h => by simp at h
  | _ :: _, [], h => by simp at h
  | (k, v) :: kvs, y :: ks, h => by
    simp only [List.map_cons, List.cons.injEq] at h
    have := kvz_of h.2
    rw [h.1, List.map_cons]
    show _ = (Sum.inr y, v) :: kvz ks (kvs.map (·.2))
    rw [← this]
theorem ValL.setV {G : Hp} {v : V} {t : Pt} (hv : Val G v t) : ∀ {vs : List V} {us : List Pt}, ValL G vs us → ∀ j : Nat, ValL G (vs.set j v) (us.set j t)
  | _, _, .nil, j => .nil
  | _, _, .cons h r, 0 => .cons hv r
  | _, _, .cons h r, j + 1 => .cons h (r.setV hv j)
theorem sizeL_set {t u : Pt} : ∀ {us : List Pt} {j : Nat}, us[j]? = some u → Pt.sizeL (us.set j t) + u.size = Pt.sizeL us + t.size
  | [], j, h => by simp at h
  | x :: r, 0, h => by
    have e : x = u := by simpa using h
    subst e
    simp only [List.set_cons_zero, Pt.sizeL]; omega
  | x :: r, j + 1, h => by
    have := sizeL_set (t := t) (us := r) (j := j) (by simpa using h)
    simp only [List.set_cons_succ, Pt.sizeL]; omega
theorem mem_set {t : Pt} {us : List Pt} {j : Nat} {x : Pt} (h : x ∈ us.set j t) : x ∈ us ∨ x = t := by
  rcases List.mem_or_eq_of_mem_set h with h | h
  · exact .inl h
  · exact .inr h
theorem put_at' : ∀ {ks : List Str} {ws : List V} {y : Str} {v : V} {j : Nat}, ks.length = ws.length → ks.Nodup → ks[j]? = some y → (kvz ks ws).map (fun kv => if kv.1 = (Sum.inr y : Key) then (kv.1, v) else kv) = kvz ks (ws.set j v)
  | [], _, _, _, _, _, _, h => by simp at h
  | _ :: _, [], _, _, _, l, _, _ => by simp at l
  | k :: ks, w :: ws, y, v, 0, l, nd, h => by
    obtain ⟨n1, n2⟩ := List.nodup_cons.mp nd
    have e : k = y := by simpa using h
    subst e
    have ek : kvz (k :: ks) (w :: ws) = (Sum.inr k, w) :: kvz ks ws := rfl
    rw [ek, List.map_cons, if_pos rfl]
    show _ = (Sum.inr k, v) :: kvz ks ws
    congr 1
    conv => rhs; rw [← List.map_id (kvz ks ws)]
    refine List.map_congr_left fun kv hkv => ?_
    rw [if_neg]
    · rfl
    · intro z
      have : kv.1 ∈ (kvz ks ws).map (·.1) := List.mem_map_of_mem hkv
      rw [kvz_keys (by simpa using l), z] at this
      obtain ⟨x, hx, e⟩ := List.mem_map.mp this
      rw [Sum.inr.inj e] at hx
      exact n1 hx
  | k :: ks, w :: ws, y, v, j + 1, l, nd, h => by
    obtain ⟨n1, n2⟩ := List.nodup_cons.mp nd
    have hy : ks[j]? = some y := by simpa using h
    have ek : kvz (k :: ks) (w :: ws) = (Sum.inr k, w) :: kvz ks ws := rfl
    have ne : ¬ (Sum.inr k : Key) = Sum.inr y := fun z => n1 (by rw [Sum.inr.inj z]; exact List.mem_of_getElem? hy)
    rw [ek, List.map_cons, put_at' (v := v) (by simpa using l) n2 hy, if_neg ne]
    rfl
theorem put_at {ks : List Str} {ws : List V} {y : Str} {j : Nat} (v : V) (l : ks.length = ws.length) (nd : ks.Nodup) (h : ks[j]? = some y) : putK (kvz ks ws) (Sum.inr y) v = kvz ks (ws.set j v) := by
  unfold putK
  rw [if_pos, put_at' l nd h]
  rw [valV_any, is_in (kvz_keys l)]
  exact decide_eq_true (List.mem_of_getElem? h)
theorem drop_any {G : Hp} {y : Str} : ∀ {ks : List Str} {ws : List V} {us : List Pt}, ks.length = ws.length → ks.Nodup → ValL G ws us → ∃ (ks2 : List Str) (ws2 : List V) (us2 : List Pt), dropK (kvz ks ws) (Sum.inr y) = kvz ks2 ws2 ∧ ks2.length = ws2.length ∧ ks2.Nodup ∧ ValL G ws2 us2 ∧ (∀ k ∈ ks2, k ∈ ks) ∧ (∀ u ∈ us2, u ∈ us) ∧ Pt.sizeL us2 ≤ Pt.sizeL us ∧ ks2.length ≤ ks.length
  | [], [], _, _, _, .nil => ⟨[], [], [], rfl, rfl, .nil, .nil, (fun u h => nomatch h), (fun u h => nomatch h), Nat.le_refl _, Nat.le_refl _⟩
  | [], _ :: _, _, l, _, _ => by simp at l
  | _ :: _, [], _, l, _, _ => by simp at l
  | k :: ks, w :: ws, _, l, nd, .cons (t := u) (ts := us) h r => by
    obtain ⟨n1, n2⟩ := List.nodup_cons.mp nd
    obtain ⟨ks2, ws2, us2, e1, e2, e3, e4, e5, e6, e7, e8⟩ := drop_any (y := y) (ks := ks) (ws := ws) (by simpa using l) n2 r
    have ek : kvz (k :: ks) (w :: ws) = (Sum.inr k, w) :: kvz ks ws := rfl
    by_cases hk : (Sum.inr k : Key) = Sum.inr y
    · exact ⟨ks2, ws2, us2, by rw [ek, dropK_pos hk, e1], e2, e3, e4, fun x hx => List.mem_cons_of_mem _ (e5 x hx), fun x hx => List.mem_cons_of_mem _ (e6 x hx), by simp only [Pt.sizeL]; omega, by simp only [List.length_cons]; omega⟩
    · refine ⟨k :: ks2, w :: ws2, u :: us2, by rw [ek, dropK_neg hk, e1]; rfl, by simp [e2], List.nodup_cons.mpr ⟨fun hx => n1 (e5 k hx), e3⟩, .cons h e4, fun x hx => ?_, fun x hx => ?_, by simp only [Pt.sizeL]; omega, by simp only [List.length_cons]; omega⟩
      · rcases List.mem_cons.mp hx with rfl | hx
        · exact List.mem_cons_self
        · exact List.mem_cons_of_mem _ (e5 x hx)
      · rcases List.mem_cons.mp hx with rfl | hx
        · exact List.mem_cons_self
        · exact List.mem_cons_of_mem _ (e6 x hx)
theorem ov_new {G H H' : Hp} {b : Addr} (sG : Same G H) (h : H b = none) : ov G H H' b = H' b := by
  unfold ov
  rw [sG.free h, nw_new h]
theorem nw_ov {G H H1 H2 H3 : Hp} (sG : Same G H) (d : ∀ b, H1 b = none → H b = none) (s : ∀ b o, H1 b = none → H2 b = some o → H3 b = some o) : Same (nw H1 H2) (ov G H H3) := fun b o e => by
  cases h : H1 b with
  | none => rw [nw_new h] at e; rw [ov_new sG (d b h)]; exact s b o h e
  | some z => rw [nw_old h] at e; cases e
theorem ov_up {G H H7 H8 H9 : Hp} (sG : Same G H) (d : ∀ b, H7 b = none → H b = none) (s : ∀ b o, H7 b = none → H8 b = some o → H9 b = some o) : Same (ov G H7 H8) (ov G H H9) := fun b o e => by
  unfold ov at e
  cases h : G b with
  | some z => rw [h] at e; unfold ov; rw [h]; exact e
  | none =>
    rw [h] at e
    exact nw_ov sG d s b o e
theorem ifS_key {c : TT} {T U : TS} {D : Ends} {σ : St} {H : Hp} (R : Hp → Prop) (k : ∀ H', R H' → T D σ H') (h : (∀ H', R H' → T D σ H') → tIfS c T U D σ H) : tIfS c T U D σ H := h k
theorem ValL.takeN {G : Hp} : ∀ {vs : List V} {us : List Pt}, ValL G vs us → ∀ k : Nat, ValL G (vs.take k) (us.take k)
  | _, _, .nil, k => by rw [List.take_nil, List.take_nil]; exact .nil
  | _, _, .cons h r, 0 => .nil
  | _, _, .cons h r, k + 1 => .cons h (r.takeN k)
theorem sizeL_take : ∀ (us : List Pt) (k : Nat), Pt.sizeL (us.take k) ≤ Pt.sizeL us
  | [], k => by simp
  | x :: r, 0 => by simp [Pt.sizeL]
  | x :: r, k + 1 => by have := sizeL_take r k; simp only [List.take_succ_cons, Pt.sizeL]; omega
theorem cutV_less (vs : List V) : ∃ k, cutV vs none (some (-1)) = vs.take k := by
  rcases List.eq_nil_or_concat vs with rfl | ⟨us, lv, rfl⟩
  · exact ⟨0, by simp [cutV]⟩
  · exact ⟨us.length, by rw [List.concat_eq_append, cutV_init]; simp⟩
end L2

set_option Elab.async false
set_option linter.all false
set_option maxRecDepth 100000
set_option maxHeartbeats 4000000
namespace L2
open PySem PySem.Spec PyProof.Rows
theorem Bt.over {H0 H1 H2 : Hp} {D : Addr} (s : Same H0 H1) (hD : H0 D = none) (bt : Bt (some D) H1 H2) : Same H0 H2 := fun b o e => bt.keep b o (fun z => by rw [← Option.some.inj z, hD] at e; cases e) (s _ _ e)
theorem hid_over {H0 H1 : Hp} {D : Addr} (s : Same H0 H1) (hD : H0 D = none) : Same H0 (hid D H1) := fun b o e => by
  rw [hid_ne (fun z => by rw [z, hD] at e; cases e)]
  exact s _ _ e
theorem ints_of : ∀ {vs : List V}, (∀ (i : Nat) v, vs[i]? = some v → ∃ z : Int, v = .int z) → ∃ cs : List Int, vs = cs.map V.int
  | [], _ => ⟨[], rfl⟩
  | v :: r, h => by
    obtain ⟨z, rfl⟩ := h 0 v rfl
    obtain ⟨cs, rfl⟩ := ints_of (vs := r) fun i v hv => h (i + 1) v (by simpa using hv)
    exact ⟨z :: cs, rfl⟩
structure DocsI (H5 Hi : Hp) (p5 : Addr) (ws : List V) (us : List Pt) : Prop where
  s : Same H5 Hi
  n5 : H5 p5 = none
  f : Hi p5 = some (.lst ws)
  v : ValL (hid p5 Hi) ws us
theorem DocsI.up {H5 Hi H' : Hp} {p5 : Addr} {ws : List V} {us : List Pt} (d : DocsI H5 Hi p5 ws us) (s : Same Hi H') : DocsI H5 H' p5 ws us := ⟨d.s.trans s, d.n5, s _ _ d.f, d.v.up fun b o e => by
  have hb : b ≠ p5 := fun z => by unfold hid at e; rw [if_pos z] at e; cases e
  rw [hid_ne hb] at e ⊢
  exact s _ _ e⟩
theorem DocsI.push {H5 Hi H' : Hp} {p5 : Addr} {ws : List V} {us : List Pt} {w : V} {t : Pt} (d : DocsI H5 Hi p5 ws us) (s : Same Hi H') (vw : Val (hid p5 H') w t) : DocsI H5 (upd H' p5 (.lst (ws ++ [w]))) p5 (ws ++ [w]) (us ++ [t]) := by
  have u : Same (hid p5 H') (hid p5 (upd H' p5 (.lst (ws ++ [w])))) := fun b o e => by
    have hb : b ≠ p5 := fun z => by unfold hid at e; rw [if_pos z] at e; cases e
    rw [hid_ne hb] at e ⊢
    rw [upd_ne hb]
    exact e
  exact ⟨(d.s.trans s).put d.n5, d.n5, upd_same, ((d.up s).v.up u).snoc (vw.up u)⟩
theorem DocsI.bent {H5 Hi H' : Hp} {p5 : Addr} {ws : List V} {us : List Pt} {w : V} {t : Pt} (d : DocsI H5 Hi p5 ws us) (s : Same Hi H') (vw : Val (ov (hid p5 Hi) Hi H') w t) : Val (hid p5 H') w t := vw.up fun b o e => by
  unfold ov at e
  cases h : hid p5 Hi b with
  | some z =>
    rw [h] at e
    cases e
    have hb : b ≠ p5 := fun z => by unfold hid at h; rw [if_pos z] at h; cases h
    rw [hid_ne hb] at h ⊢
    exact s _ _ h
  | none =>
    rw [h] at e
    have hb : b ≠ p5 := fun z => by rw [z, nw_old d.f] at e; cases e
    rw [hid_ne hb]
    exact nw_sub _ _ e
theorem DocsI.fit {H5 Hi H1 H' : Hp} {p5 : Addr} {ws : List V} {us : List Pt} {w : V} {t : Pt} (d : DocsI H5 Hi p5 ws us) (s : Same Hi H1) (vw : Val (nw H1 H') w t) : Val (hid p5 H') w t := vw.up fun b o e => by
  have hb : b ≠ p5 := fun z => by rw [z, nw_old (s _ _ d.f)] at e; cases e
  rw [hid_ne hb]
  exact nw_sub _ _ e
def Dc41 (u : Pt) : Prop := u.doc ∧ u.size ≤ 720 ∧ u.deep ≤ 30
end L2

set_option Elab.async false
set_option linter.all false
set_option maxRecDepth 100000
set_option maxHeartbeats 40000000
namespace K41
open PySem L2
def top (i : Nat) : Stmt := PySem.Challenge.pw_patchbough_k41_what_asks_let_in.main.body.getD i (.Pass ⟨0, 0, 0, 0⟩)
abbrev sStepsOf : Stmt := top 1
abbrev sInnerOf : Stmt := top 2
abbrev sAreLevel : Stmt := top 3
abbrev sAreEqual : Stmt := top 4
abbrev sHolderIn : Stmt := top 6
abbrev sLetsIn : Stmt := top 7
abbrev sLetsInOutside : Stmt := top 8
abbrev sIsCount : Stmt := top 9
abbrev sHasNames : Stmt := top 10
abbrev sCell : Stmt := top 12
abbrev sMix : Stmt := top 13
abbrev sNames : Stmt := top 14
abbrev sDoc : Stmt := top 15
abbrev sCopy : Stmt := top 16
abbrev sAsks : Stmt := top 17
abbrev sFit : Stmt := top 18
abbrev sBent : Stmt := top 19
abbrev sLets : Stmt := top 20
abbrev sLarge : Stmt := top 21
abbrev sLaw : Stmt := top 22
end K41

set_option Elab.async false
set_option linter.all false
set_option maxRecDepth 100000
set_option maxHeartbeats 40000000
namespace K41
open PySem L2
section
variable {P : Program} {w : World} {K : PySem.W.Frag} {mg : Str → Option Value} {base : Heap}
theorem scStepsOf : FnScope ["doc"] ["doc"] (defScope sStepsOf) := ⟨rfl, rfl, rfl, by decide +kernel, rfl, by decide +kernel, by decide +kernel⟩
theorem ok_StepsOf {f : Addr} {fd : FuncData} (F : Fun K "steps_of" "steps_of" sStepsOf f fd) (T : Txt mg) : FnOk P w K mg base CX0 1 f fd ["doc"] spStepsV := by
  refine F.ok scStepsOf (fun vs H Q E h => ?_) (fun cdv A outer s H vs Q E hr h => ?_)
  · obtain ⟨v, t, rfl, hv, hold, q⟩ := h
    rfl
  · obtain ⟨v, t, rfl, hv, hold, q⟩ := h
    have nd := scStepsOf.nd
    have hu := hu_of hr
    refine ⟨_, (pss_cons (ps_if (pt_val (pe_callB call_isiN rfl T.isinstance b_isinstance (pa_cons (pv 0) (pa_cons (pe_bltn (v := .ty "list") rfl T.list b_list rfl) pa_nil)))) (pss_one (ps_ret (pe_callTy (call_list_rng rfl) rfl T.list b_list (pa_cons (pe_range rfl T.range (pa_cons (pe_callB call_len_seq rfl T.len PySem.boot_len (pa_cons (pv 0) pa_nil)) pa_nil)) pa_nil)))) pss_nil)
      (pss_cons (ps_if (pt_val (pe_callB call_isiN rfl T.isinstance b_isinstance (pa_cons (pv 0) (pa_cons (pe_bltn (v := .ty "dict") rfl T.dict b_dict rfl) pa_nil)))) (pss_one (ps_ret (pe_callB (call_sortedD rfl) rfl T.sorted b_sorted (pa_cons (pv 0) pa_nil)))) pss_nil)
      (pss_one (ps_ret (pe_lst pa_nil))))), ?_⟩
    cases hv with
    | int i =>
      refine ⟨_, rfl, _, "list", "int", rfl, rfl, .int i, _, rfl, iteF ⟨_, rfl, _, "dict", "int", rfl, rfl, .int i, _, rfl, iteF ?_⟩⟩
      exact ⟨Nat.zero_le _, fun p hp => q p [] _ (Same.new hp) hp upd_same rfl⟩
    | str x =>
      refine ⟨_, rfl, _, "list", "str", rfl, rfl, .str x, _, rfl, iteF ⟨_, rfl, _, "dict", "str", rfl, rfl, .str x, _, rfl, iteF ?_⟩⟩
      exact ⟨Nat.zero_le _, fun p hp => q p [] _ (Same.new hp) hp upd_same rfl⟩
    | bl b => exact hold.elim
    | tup _ _ => exact hold.elim
    | @lst a vs ts h r =>
      have hl : ts.length ≤ 900 := hold
      have e := r.length
      refine ⟨_, rfl, _, "list", "list", rfl, rfl, .lst h, _, rfl, iteT ?_⟩
      refine ⟨_, rfl, a, _, rfl, .inl (.inl h), _, rfl, fun r hr => ?_⟩
      refine ⟨r, vs.length, rfl, upd_same, by omega, fun p hp => ?_⟩
      exact q p _ _ ((Same.new hr).trans (Same.new hp)) ((Same.new hr).free hp) upd_same (by show _ = _; rw [e])
    | @dct a kvs ks ts h hk r =>
      have kl : kvs.length = ks.length := by have := congrArg List.length hk; simpa using this
      have hh : ks.length = ts.length ∧ ks.length < 64 := hold
      refine ⟨_, rfl, _, "list", "dict", rfl, rfl, .dK h, _, rfl, iteF ?_⟩
      refine ⟨_, rfl, _, "dict", "dict", rfl, rfl, .dK h, _, rfl, iteT ?_⟩
      exact ⟨_, rfl, a, _, ks, rfl, h, hk, by omega, fun p ss' H' np s hp perm srt => q p _ H' s np hp ⟨ss', rfl, perm, srt⟩⟩
end
end K41

set_option Elab.async false
set_option linter.all false
set_option maxRecDepth 100000
set_option maxHeartbeats 40000000
namespace K41
open PySem L2
section
variable {P : Program} {w : World} {K : PySem.W.Frag} {mg : Str → Option Value} {base : Heap}
theorem scInnerOf : FnScope ["doc"] ["doc"] (defScope sInnerOf) := ⟨rfl, rfl, rfl, by decide +kernel, rfl, by decide +kernel, by decide +kernel⟩
theorem ok_InnerOf {f : Addr} {fd : FuncData} (F : Fun K "inner_of" "inner_of" sInnerOf f fd) (T : Txt mg) (DStepsOf : Df P w K mg base "steps_of" ["doc"] 1 spStepsV) : FnOk P w K mg base CX0 2 f fd ["doc"] spInnerV := by
  obtain ⟨fStepsOf, dStepsOf, kStepsOf, bStepsOf, mStepsOf, GStepsOf⟩ := DStepsOf.ex
  refine F.ok scInnerOf (fun vs H Q E h => ?_) (fun cdv A outer s H vs Q E hr h => ?_)
  · obtain ⟨G, v, t, rfl, sG, hv, hold, q⟩ := h
    rfl
  · obtain ⟨G, v, t, rfl, sG, hv, hold, q⟩ := h
    have nd := scInnerOf.nd
    have hu := hu_of hr
    have hrStepsOf : Room 1 _ := hr.mono (by first | decide | omega)
    refine ⟨_, (pss_one (ps_ret (pe_comp (fv := ["doc"]) (fs := [0]) rfl (.of (by rfl)) (pi_list (pe_call GStepsOf hrStepsOf rfl mStepsOf kStepsOf bStepsOf .nil pass0 (pa_cons (pv 0) pa_nil))) (fun _ _ _ _ => pts_nil) (fun C s0 H0 fp => (pe_alt (pe_ix (r := rIxL K) ix_list (pv 1) (pv 0) (fun _ _ => rfl)) (pe_dget hu (pv 1) (pv 0) (fun _ _ => rfl))))))), ?_⟩
    refine ⟨_, rfl, v, t, rfl, hv.up sG, hold, fun p l H1 s1 np hp st => ?_⟩
    obtain ⟨es, us, vl, kd, le, ae⟩ := hv.kids hold st
    have hl' : l.length ≤ 900 := by
      cases hv with
      | int i => rw [show l = [] from st]; decide
      | str i => rw [show l = [] from st]; decide
      | bl b => exact hold.elim
      | tup _ _ => exact hold.elim
      | @lst a vs ts h r => rw [show l = _ from st, List.length_map, List.length_range]; exact hold
      | @dct a kvs ks ts h hk r =>
        obtain ⟨ss, rfl, pm, so⟩ := st
        rw [List.length_map, pm.length_eq]
        have := hold.2
        omega
    have gi : ∀ {i : Nat} {x : V}, l[i]? = some x → l.getD i .non = x := fun h => by rw [List.getD_eq_getElem?_getD, h]; rfl
    refine ⟨p, rfl, ⟨_, SqL.of hp⟩, ?_⟩
    refine comp_pure (n := l.length) (fun i => l.getD i .non) (fun i => es.getD i .non) (fun _ => true) (le_line (by omega)) (fun i D ys hi hD => ⟨_, _, (Same.new hD).seq (SqL.of hp), List.getElem?_eq_getElem hi⟩) (fun i D ys v H' hi hD y => ?_)
      (fun D ys hD => ⟨_, (Same.new hD).seq (SqL.of hp), Nat.le_refl _⟩) (fun i D ys R hi hD r => by exact r) (fun i D ys R hi hD _ r => ?_) (fun D hD => ?_)
    · obtain ⟨e, y⟩ := y
      exact ⟨(gi (y _ ((Same.new hD).seq (SqL.of hp)))).symm, e⟩
    · obtain ⟨x, hx⟩ : ∃ x, es[i]? = some x := ⟨_, List.getElem?_eq_getElem (by rw [le]; exact hi)⟩
      have ex : es.getD i .non = x := by rw [List.getD_eq_getElem?_getD, hx]; rfl
      rw [ex] at r
      have sD := (sG.trans s1).trans (Same.new (o := .lst ys) hD)
      obtain ⟨st, hst, g⟩ := ae i x hx
      rw [gi hst]
      rcases g with ⟨a, xs, j, rfl, h, rfl, e2⟩ | ⟨a, kvs, k, rfl, h, rfl, e2⟩
      · exact .inl ⟨_, rfl, _, rfl, a, _, _, _, rfl, rfl, .inl (h.up (sD _)), atI_nat e2, r⟩
      · refine .inr ⟨_, rfl, _, rfl, a, x, rfl, ?_, r⟩
        rw [← e2]
        exact .inl ⟨_, Sum.inr k, h.up (sD _), rfl, rfl⟩
    · refine q D es us _ (s1.trans (Same.new hD)) (s1.free hD) ?_ vl kd
      rw [upd_same]
      congr 2
      rw [List.filter_eq_self.mpr fun _ _ => rfl]
      refine List.ext_getElem (by simp [le]) fun i h1 h2 => ?_
      simp only [List.getElem_map, List.getElem_range]
      rw [List.getD_eq_getElem?_getD, List.getElem?_eq_getElem h2]
      rfl
end
end K41

set_option Elab.async false
set_option linter.all false
set_option maxRecDepth 100000
set_option maxHeartbeats 40000000
namespace K41
open PySem L2
section
variable {P : Program} {w : World} {K : PySem.W.Frag} {mg : Str → Option Value} {base : Heap}
theorem scAreLevel : FnScope ["one", "other"] ["one", "other"] (defScope sAreLevel) := ⟨rfl, rfl, rfl, by decide +kernel, rfl, by decide +kernel, by decide +kernel⟩
theorem ok_AreLevel {f : Addr} {fd : FuncData} (F : Fun K "are_level" "are_level" sAreLevel f fd) (T : Txt mg) : FnOk P w K mg base CX0 1 f fd ["one", "other"] spLevel := by
  refine F.ok scAreLevel (fun vs H Q E h => ?_) (fun cdv A outer s H vs Q E hr h => ?_)
  · obtain ⟨x, y, s0, t, rfl, hx, hy, ds, dt, zs, zt, q⟩ := h
    rfl
  · obtain ⟨x, y, s0, t, rfl, hx, hy, ds, dt, zs, zt, q⟩ := h
    have nd := scAreLevel.nd
    have hu := hu_of hr
    refine ⟨_, (pss_cons (ps_if (pt_val (pe_callB call_isiN rfl T.isinstance b_isinstance (pa_cons (pv 0) (pa_cons (pe_bltn (v := .ty "dict") rfl T.dict b_dict rfl) pa_nil)))) (pss_one (ps_ret (pe_and (pe_callB call_isiN rfl T.isinstance b_isinstance (pa_cons (pv 1) (pa_cons (pe_bltn (v := .ty "dict") rfl T.dict b_dict rfl) pa_nil))) (pe_one (pe_cmpR (op_eqL (Room.units0 hr)) (pe_callB (call_sortedD rfl) rfl T.sorted b_sorted (pa_cons (pv 0) pa_nil)) (pe_callB (call_sortedD rfl) rfl T.sorted b_sorted (pa_cons (pv 1) pa_nil)) (nomark _)))))) pss_nil)
      (pss_cons (ps_if (pt_val (pe_callB call_isiN rfl T.isinstance b_isinstance (pa_cons (pv 0) (pa_cons (pe_bltn (v := .ty "list") rfl T.list b_list rfl) pa_nil)))) (pss_one (ps_ret (pe_and (pe_callB call_isiN rfl T.isinstance b_isinstance (pa_cons (pv 1) (pa_cons (pe_bltn (v := .ty "list") rfl T.list b_list rfl) pa_nil))) (pe_one (pe_cmpR op_eq (pe_callB call_len_seq rfl T.len PySem.boot_len (pa_cons (pv 0) pa_nil)) (pe_callB call_len_seq rfl T.len PySem.boot_len (pa_cons (pv 1) pa_nil)) (nomark _)))))) pss_nil)
      (pss_cons (ps_if (pt_val (pe_callB call_isiN rfl T.isinstance b_isinstance (pa_cons (pv 0) (pa_cons (pe_bltn (v := .ty "tuple") rfl T.tuple b_tuple rfl) pa_nil)))) (pss_one (ps_ret (pe_and (pe_callB call_isiN rfl T.isinstance b_isinstance (pa_cons (pv 1) (pa_cons (pe_bltn (v := .ty "tuple") rfl T.tuple b_tuple rfl) pa_nil))) (pe_one (pe_cmpR op_eq (pe_callB call_len_seq rfl T.len PySem.boot_len (pa_cons (pv 0) pa_nil)) (pe_callB call_len_seq rfl T.len PySem.boot_len (pa_cons (pv 1) pa_nil)) (nomark _)))))) pss_nil)
      (pss_one (ps_ret (pe_cmpR (op_eqD (Room.units hr)) (pv 0) (pv 1) (nomark _))))))), ?_⟩
    have fl : ∀ (l : List Str), ∀ z ∈ l.map V.str, flatV z = true := fun l z hz => by
      obtain ⟨y, _, rfl⟩ := List.mem_map.mp hz
      rfl
    cases hx with
    | bl b => simp [Pt.doc] at ds
    | tup _ _ => simp [Pt.doc] at ds
    | int i =>
      refine ⟨_, rfl, _, "dict", "int", rfl, rfl, .int i, _, rfl, iteF ⟨_, rfl, _, "list", "int", rfl, rfl, .int i, _, rfl, iteF ⟨_, rfl, _, "tuple", "int", rfl, rfl, .int i, _, rfl, iteF ?_⟩⟩⟩
      refine ⟨_, rfl, _, rfl, .int i, t, .int i, hy, .one (.int i), dt, q _ H (Same.refl H) ?_⟩
      cases t <;> simp [Pt.eqP, Level]
    | str x =>
      refine ⟨_, rfl, _, "dict", "str", rfl, rfl, .str x, _, rfl, iteF ⟨_, rfl, _, "list", "str", rfl, rfl, .str x, _, rfl, iteF ⟨_, rfl, _, "tuple", "str", rfl, rfl, .str x, _, rfl, iteF ?_⟩⟩⟩
      refine ⟨_, rfl, _, rfl, .str x, t, .str x, hy, .one (.str x), dt, q _ H (Same.refl H) ?_⟩
      cases t <;> simp [Pt.eqP, Level]
    | @lst a vs xs h r =>
      simp only [Pt.size] at zs
      have lx := Pt.lenL xs
      have lv := r.length
      refine ⟨_, rfl, _, "dict", "list", rfl, rfl, .lst h, _, rfl, iteF ⟨_, rfl, _, "list", "list", rfl, rfl, .lst h, _, rfl, iteT ?_⟩⟩
      refine ⟨_, rfl, _, "list", t.tyS, rfl, rfl, hy.ty, _, rfl, ?_⟩
      cases hy with
      | @lst b ws ys h' r' =>
        simp only [Pt.size] at zt
        have ly := Pt.lenL ys
        have lw := r'.length
        refine iteT ⟨_, rfl, a, _, rfl, .inl (.inl h), _, rfl, b, _, rfl, .inl (.inl h'), rfl, q _ H (Same.refl H) ?_⟩
        show _ ↔ xs.length = ys.length
        rw [← lv, ← lw]
        constructor
        · intro e
          have := of_decide_eq_true e
          have : ((vs.length : Int)) = (ws.length : Int) := V.int.inj this
          omega
        · intro e
          rw [e]
          simp
      | int i => exact iteF (q _ H (Same.refl H) (by simp [Level]))
      | str i => exact iteF (q _ H (Same.refl H) (by simp [Level]))
      | bl b => simp [Pt.doc] at dt
      | tup _ _ => simp [Pt.doc] at dt
      | dct _ _ _ => exact iteF (q _ H (Same.refl H) (by simp [Level]))
    | @dct a kvs ks xs h hk r =>
      refine ⟨_, rfl, _, "dict", "dict", rfl, rfl, .dK h, _, rfl, iteT ?_⟩
      refine ⟨_, rfl, _, "dict", t.tyS, rfl, rfl, hy.ty, _, rfl, ?_⟩
      cases hy with
      | @dct b kws ls ys h' hk' r' =>
        simp only [Pt.doc] at ds dt
        have kl : kvs.length = ks.length := by have := congrArg List.length hk; simpa using this
        have kl' : kws.length = ls.length := by have := congrArg List.length hk'; simpa using this
        refine iteT ⟨_, rfl, a, _, ks, rfl, h, hk, by omega, fun p1 ss1 H1 np1 s1 hp1 pm1 st1 => ?_⟩
        refine ⟨_, rfl, b, _, ls, rfl, h'.up (s1 _), hk', by omega, fun p2 ss2 H2 np2 s2 hp2 pm2 st2 => ?_⟩
        refine ⟨p1, p2, _, _, rfl, rfl, SqL.of (s2 _ _ hp1), SqL.of hp2, fl _, fl _, q _ H2 (s1.trans s2) ?_⟩
        show eqTs _ _ = true ↔ ks.Perm ls
        rw [eqTs_strs]
        constructor
        · intro e
          subst e
          exact pm1.symm.trans pm2
        · intro e
          exact sortedS_one st1 st2 ((pm1.trans e).trans pm2.symm)
      | int i => exact iteF (q _ H (Same.refl H) (by simp [Level]))
      | str i => exact iteF (q _ H (Same.refl H) (by simp [Level]))
      | bl b => simp [Pt.doc] at dt
      | tup _ _ => simp [Pt.doc] at dt
      | lst _ _ => exact iteF (q _ H (Same.refl H) (by simp [Level]))
end
end K41

set_option Elab.async false
set_option linter.all false
set_option maxRecDepth 100000
set_option maxHeartbeats 40000000
namespace K41
open PySem L2
section
variable {P : Program} {w : World} {K : PySem.W.Frag} {mg : Str → Option Value} {base : Heap}
theorem scAreEqual : FnScope ["one", "other", "waiting", "pair"] ["one", "other"] (defScope sAreEqual) := ⟨rfl, rfl, rfl, by decide +kernel, rfl, by decide +kernel, by decide +kernel⟩
theorem ok_AreEqual {f : Addr} {fd : FuncData} (F : Fun K "are_equal" "are_equal" sAreEqual f fd) (T : Txt mg) (DInnerOf : Df P w K mg base "inner_of" ["doc"] 2 spInnerV) (DAreLevel : Df P w K mg base "are_level" ["one", "other"] 1 spLevel) (hzip : mg "zip" = none) : FnOk P w K mg base CX0 4 f fd ["one", "other"] spEqual := by
  obtain ⟨fInnerOf, dInnerOf, kInnerOf, bInnerOf, mInnerOf, GInnerOf⟩ := DInnerOf.ex
  obtain ⟨fAreLevel, dAreLevel, kAreLevel, bAreLevel, mAreLevel, GAreLevel⟩ := DAreLevel.ex
  refine F.ok scAreEqual (fun vs H Q E h => ?_) (fun cdv A outer s H vs Q E hr h => ?_)
  · obtain ⟨x, y, s0', t, rfl, hx, hy, ds, dt, zs, zt, q⟩ := h
    rfl
  · obtain ⟨x, y, s0', t, rfl, hx, hy, ds, dt, zs, zt, q⟩ := h
    have nd := scAreEqual.nd
    have hu := hu_of hr
    have hrInnerOf : Room 2 _ := hr.mono (by first | decide | omega)
    have hrAreLevel : Room 1 _ := hr.mono (by first | decide | omega)
    refine ⟨_, (pss_cons (ps_set (i := 2) nd rfl (Or.inl rfl) (pe_lst (pa_cons (pe_tup (pa_cons (pv 0) (pa_cons (pv 1) pa_nil))) pa_nil)))
      (pss_cons (ps_while PassesOwn.never (pt_truth (pv 2) (fun _ => rfl)) (pss_cons (ps_set (i := 3) nd rfl (Or.inl rfl) (pe_bm0 PySem.F.plainAttrs_list PySem.F.slot_list_pop PySem.F.type_list_pop mt_pop (pv 2)))
      (pss_cons (ps_if (pt_not (pt_val (pe_call GAreLevel hrAreLevel rfl mAreLevel kAreLevel bAreLevel .nil pass0 (pa_cons (pe_ix (r := rIxT K) ix_tup (pv 3) pe_int (fun _ _ => rfl)) (pa_cons (pe_ix (r := rIxT K) ix_tup (pv 3) pe_int (fun _ _ => rfl)) pa_nil))))) (pss_one (ps_ret pe_bl)) pss_nil)
      (pss_one (ps_if (pt_val (pe_callB call_isiN rfl T.isinstance b_isinstance (pa_cons (pe_ix (r := rIxT K) ix_tup (pv 3) pe_int (fun _ _ => rfl)) (pa_cons (pe_bltn (v := .ty "tuple") rfl T.tuple b_tuple rfl) pa_nil)))) (pss_one (ps_expr (pe_bm PySem.F.plainAttrs_list PySem.F.slot_list_extend PySem.F.type_list_extend mt_extend (pv 2) (pa_cons (pe_list_zip rfl rfl T.list rfl hzip (pe_ix (r := rIxT K) ix_tup (pv 3) pe_int (fun _ _ => rfl)) (pe_ix (r := rIxT K) ix_tup (pv 3) pe_int (fun _ _ => rfl))) pa_nil)))) (pss_one (ps_expr (pe_bm PySem.F.plainAttrs_list PySem.F.slot_list_extend PySem.F.type_list_extend mt_extend (pv 2) (pa_cons (pe_list_zip rfl rfl T.list rfl hzip (pe_call GInnerOf hrInnerOf rfl mInnerOf kInnerOf bInnerOf .nil pass0 (pa_cons (pe_ix (r := rIxT K) ix_tup (pv 3) pe_int (fun _ _ => rfl)) pa_nil)) (pe_call GInnerOf hrInnerOf rfl mInnerOf kInnerOf bInnerOf .nil pass0 (pa_cons (pe_ix (r := rIxT K) ix_tup (pv 3) pe_int (fun _ _ => rfl)) pa_nil))) pa_nil)))))))))
      (pss_one (ps_ret pe_bl)))), ?_⟩
    refine ⟨_, rfl, _, rfl, two_line, fun t0 ht0 => ⟨one_line, fun L hL => ?_⟩⟩
    have s0 := (Same.new (o := .tup [x, y]) ht0).trans (Same.new (o := .lst [.ref t0]) hL)
    have nL : H L = none := (Same.new (o := .tup [x, y]) ht0).free hL
    have ft : upd (upd H t0 (.tup [x, y])) L (.lst [.ref t0]) t0 = some (.tup [x, y]) := by rw [upd_ne (ne_of_none upd_same hL), upd_same]
    dsimp only [gName, tSeq]
    refine while_W (fun m σ Hi => ∃ (ts : List Addr) (ps : List (Pt × Pt)) (o2 : Option V), σ = [some x, some y, some (.ref L), o2] ∧ Same H Hi ∧ Hi L = some (.lst (ts.map V.ref)) ∧ PairsAt H Hi ts ps ∧ (∀ p ∈ ps, p.1.doc ∧ p.2.doc ∧ p.1.size ≤ 900 ∧ p.2.size ≤ 900) ∧ m = sumP ps ∧ m ≤ s0'.size ∧ Pt.eqP s0' t = ps.all fun p => Pt.eqP p.1 p.2)
      s0'.size ⟨[t0], [(s0', t)], none, rfl, s0, upd_same, .cons ft hx hy .nil, fun p hp => by rw [List.mem_singleton.mp hp]; exact ⟨ds, dt, zs, zt⟩, by simp [sumP], Nat.le_refl _, by simp⟩ ?_ (fun σ H Q Q' h ⟨v, e, k, t, q⟩ => ⟨v, e, k, t, h _ _ q⟩)
    rintro m σ Hi ⟨ts, ps, o2, rfl, si, hLi, pa, dd, rfl, hm, he⟩
    refine ⟨_, rfl, _, .inl ⟨_, SqL.of hLi, rfl⟩, ?_⟩
    by_cases hne : ts = []
    · subst hne
      cases pa
      rw [he] at q
      exact iteF (q Hi si)
    · obtain ⟨us, t1, qs, p, u, v, rfl, rfl, pu, ht1, hu, hv⟩ := pa.snoc hne
      refine iteBT (by simp) ?_
      obtain ⟨d1, d2, z1, z2⟩ := dd p (by simp)
      have lq := sumP_len qs
      have sz : sumP (qs ++ [p]) = sumP qs + p.1.size := by rw [sumP_append]; simp [sumP]
      have pp := Pt.size_pos p.1
      have lu := pu.length
      refine ⟨_, rfl, .inl ⟨rfl, _, SqL.of hLi⟩, L, _, .ref t1, rfl, rfl, hLi, by simp, ?_⟩
      have dl : (List.map V.ref (us ++ [t1])).dropLast = us.map V.ref := by rw [List.map_append]; simp
      rw [dl]
      have s1 : Same H (upd Hi L (.lst (us.map V.ref))) := si.put nL
      have nt : t1 ≠ L := ne_of ht1 hLi (by intro z; cases z)
      have ht1' : upd Hi L (.lst (us.map V.ref)) t1 = some (.tup [u, v]) := by rw [upd_ne nt]; exact ht1
      have pu1 : PairsAt H (upd Hi L (.lst (us.map V.ref))) us qs := pu.up fun a b c e => by rw [upd_ne (ne_of e hLi (by intro z; cases z))]; exact e
      have hL1 : upd Hi L (.lst (us.map V.ref)) L = some (.lst (us.map V.ref)) := upd_same
      generalize upd Hi L (.lst (us.map V.ref)) = H1 at s1 ht1' pu1 hL1 ⊢
      refine ⟨_, rfl, t1, _, 0, u, rfl, rfl, SqT.of ht1', at0, _, rfl, t1, _, 1, v, rfl, rfl, SqT.of ht1', at1, u, v, p.1, p.2, rfl, hu.up s1, hv.up s1, d1, d2, z1, z2, fun b H2 s2 hb => ?_⟩
      have ha : (qs ++ [p]).all (fun p => Pt.eqP p.1 p.2) = (qs.all (fun p => Pt.eqP p.1 p.2) && Pt.eqP p.1 p.2) := by rw [List.all_append]; simp
      cases b with
      | false =>
        have nl : ¬ Level p.1 p.2 := fun z => by have := hb.mpr z; cases this
        have e0 := not_level d1 d2 nl
        rw [he, ha, e0, Bool.and_false] at q
        exact ⟨_, rfl, iteBT rfl (q H2 (s1.trans s2))⟩
      | true =>
        have lv : Level p.1 p.2 := hb.mp rfl
        refine ⟨_, rfl, iteBF rfl ?_⟩
        have tyu : TyN H2 u p.1.tyS := (hu.up (s1.trans s2)).ty
        have notT : isiB p.1.tyS "tuple" = false := by
          cases hp1 : p.1 with
          | tup xs => rw [hp1] at d1; simp [Pt.doc] at d1
          | bl b => rw [hp1] at d1; simp [Pt.doc] at d1
          | _ => rfl
        have ht2 := s2 _ _ ht1'
        refine ⟨_, rfl, t1, _, 0, u, rfl, rfl, SqT.of ht2, at0, _, "tuple", _, rfl, rfl, tyu, _, rfl, iteBF notT ?_⟩
        refine ⟨_, rfl, .inl ⟨rfl, _, SqL.of (s2 _ _ hL1)⟩, ?_⟩
        refine ⟨_, rfl, t1, _, 0, u, rfl, rfl, SqT.of ht2, at0, H, u, p.1, rfl, s1.trans s2, hu, doc_holdy d1 z1, fun l1 es us1 H3 s3 n3 hl1 vl1 k1 => ?_⟩
        refine ⟨_, rfl, t1, _, 1, v, rfl, rfl, SqT.of (s3 _ _ ht2), at1, H, v, p.2, rfl, (s1.trans s2).trans s3, hv, doc_holdy d2 z2, fun l2 fs us2 H4 s4 n4 hl2 vl2 k2 => ?_⟩
        obtain ⟨ll, ek⟩ := level_kids d1 d2 lv k1 k2
        have le := vl1.length
        have lf := vl2.length
        refine ⟨l1, l2, es, fs, rfl, rfl, s4 _ _ hl1, hl2, by omega, fun P2 tt H5 s5 nP hP lt tp => ?_⟩
        have s15 := ((s2.trans s3).trans s4).trans s5
        have dk1 := doc_kids d1 k1
        have dk2 := doc_kids d2 k2
        have sk1 := kids_size d1 k1
        have sk2 := kids_size d2 k2
        have sz2 : sumP (us1.zip us2) = Pt.sizeL us1 := sumP_zip ll
        have lus := Pt.lenL us1
        have pn : PairsAt H H5 tt (us1.zip us2) := PairsAt.zip vl1 vl2 lt (by omega) tp
        refine ⟨L, P2, _, _, rfl, rfl, s15 _ _ hL1, hP, le_line (by rw [List.length_map, List.length_map]; omega), sumP (qs ++ us1.zip us2), by rw [sumP_append, sz2, sz]; omega, us ++ tt, qs ++ us1.zip us2, _, rfl, ?_, ?_, ?_, ?_, rfl, ?_, ?_⟩
        · exact (s1.trans s15).put nL
        · rw [upd_same, List.map_append]
        · refine PairsAt.append ?_ ?_
          · exact (pu1.up fun a b c e => s15 _ _ e).up fun a b c e => by rw [upd_ne (ne_of e (s15 _ _ hL1) (by intro z; cases z))]; exact e
          · exact pn.up fun a b c e => by rw [upd_ne (ne_of e (s15 _ _ hL1) (by intro z; cases z))]; exact e
        · intro p' hp'
          rcases List.mem_append.mp hp' with hp' | hp'
          · exact dd p' (by simp [hp'])
          · have m1 := (List.of_mem_zip hp').1
            have m2 := (List.of_mem_zip hp').2
            have := Pt.sizeL_mem m1
            have := Pt.sizeL_mem m2
            exact ⟨Pt.docL_mem dk1 _ m1, Pt.docL_mem dk2 _ m2, by omega, by omega⟩
        · rw [sumP_append, sz2]; omega
        · rw [he, ha, List.all_append, ek]
end
end K41

set_option Elab.async false
set_option linter.all false
set_option maxRecDepth 100000
set_option maxHeartbeats 40000000
namespace K41
open PySem L2
section
variable {P : Program} {w : World} {K : PySem.W.Frag} {mg : Str → Option Value} {base : Heap}
theorem scHolderIn : FnScope ["node"] ["node"] (defScope sHolderIn) := ⟨rfl, rfl, rfl, by decide +kernel, rfl, by decide +kernel, by decide +kernel⟩
theorem ok_HolderIn {f : Addr} {fd : FuncData} (F : Fun K "holder_in" "holder_in" sHolderIn f fd) (T : Txt mg) : FnOk P w K mg base CX0 1 f fd ["node"] spHoldIn := by
  refine F.ok scHolderIn (fun vs H Q E h => ?_) (fun cdv A outer s H vs Q E hr h => ?_)
  · obtain ⟨G, v, a, rfl, sG, hv, q⟩ := h
    rfl
  · obtain ⟨G, v, a, rfl, sG, hv, q⟩ := h
    have nd := scHolderIn.nd
    have hu := hu_of hr
    refine ⟨_, (pss_cons (ps_if (pt_cmpR (op_in_seq : OpR _ _ (rIn K false)) (pe_ix (r := rIxT K) ix_tup (pv 0) pe_int (fun _ _ => rfl)) (pe_tup (pa_cons pe_str (pa_cons pe_str pa_nil))) rfl) (pss_one (ps_ret (pe_ix (r := rIxT K) ix_tup (pv 0) pe_int (fun _ _ => rfl)))) pss_nil)
      (pss_one (ps_ret (pe_lst pa_nil)))), ?_⟩
    obtain ⟨t, w0, rest, rfl, ht, cs⟩ := hv.ak
    have ht' := sG _ _ ht
    refine ⟨_, rfl, t, _, 0, .str w0, rfl, rfl, SqT.of ht', at0, two_line, fun p hp => ⟨p, _, rfl, .inr (SqT.of upd_same), rfl, rfl, _, rfl, ?_⟩⟩
    have s1 := Same.new (o := .tup [.str "row", .str "table"]) hp
    have ht1 := s1 _ _ ht'
    rcases cs with ⟨rfl, rfl, rfl⟩ | ⟨d, u, rfl, rfl, rfl, hu⟩ | ⟨xs, m, u, rfl, rfl, rfl, hu⟩ | ⟨ks, xs, ls, m, u, z, rfl, rfl, rfl, hu, hz⟩
    · exact iteBF (by decide +kernel) ⟨Nat.zero_le _, fun p2 hp2 => q _ _ (s1.trans (Same.new hp2)) (.inr ⟨.inl rfl, p2, rfl, upd_same⟩)⟩
    · exact iteBF (by decide +kernel) ⟨Nat.zero_le _, fun p2 hp2 => q _ _ (s1.trans (Same.new hp2)) (.inr ⟨.inr ⟨d, rfl⟩, p2, rfl, upd_same⟩)⟩
    · exact iteBT (by decide +kernel) ⟨_, rfl, t, _, 1, u, rfl, rfl, SqT.of ht1, at1, q _ _ s1 (.inl ⟨.inl ⟨xs, m, rfl⟩, hu⟩)⟩
    · exact iteBT (by decide +kernel) ⟨_, rfl, t, _, 1, u, rfl, rfl, SqT.of ht1, at1, q _ _ s1 (.inl ⟨.inr ⟨ks, xs, ls, m, rfl⟩, hu⟩)⟩
end
end K41

set_option Elab.async false
set_option linter.all false
set_option maxRecDepth 100000
set_option maxHeartbeats 40000000
namespace K41
open PySem L2
section
variable {P : Program} {w : World} {K : PySem.W.Frag} {mg : Str → Option Value} {base : Heap}
theorem scLetsIn : FnScope ["asks", "doc", "waiting", "pair", "holder"] ["asks", "doc"] (defScope sLetsIn) := ⟨rfl, rfl, rfl, by decide +kernel, rfl, by decide +kernel, by decide +kernel⟩
theorem ok_LetsIn {f : Addr} {fd : FuncData} (F : Fun K "lets_in" "lets_in" sLetsIn f fd) (T : Txt mg) (DStepsOf : Df P w K mg base "steps_of" ["doc"] 1 spStepsV) (DHolderIn : Df P w K mg base "holder_in" ["node"] 1 spHoldIn) (DLetsInOutside : Df P w K mg base "lets_in_outside" ["asks", "doc"] 5 spOut) : FnOk P w K mg base CX0 6 f fd ["asks", "doc"] spLetsIn := by
  obtain ⟨fStepsOf, dStepsOf, kStepsOf, bStepsOf, mStepsOf, GStepsOf⟩ := DStepsOf.ex
  obtain ⟨fHolderIn, dHolderIn, kHolderIn, bHolderIn, mHolderIn, GHolderIn⟩ := DHolderIn.ex
  obtain ⟨fLetsInOutside, dLetsInOutside, kLetsInOutside, bLetsInOutside, mLetsInOutside, GLetsInOutside⟩ := DLetsInOutside.ex
  refine F.ok scLetsIn (fun vs H Q E h => ?_) (fun cdv A outer s H vs Q E hr h => ?_)
  · obtain ⟨v, y, a0, t, rfl, hv, hy, hok, dt, za, zt, q⟩ := h
    rfl
  · obtain ⟨v, y, a0, t, rfl, hv, hy, hok, dt, za, zt, q⟩ := h
    have nd := scLetsIn.nd
    have hu := hu_of hr
    have hrStepsOf : Room 1 _ := hr.mono (by first | decide | omega)
    have hrHolderIn : Room 1 _ := hr.mono (by first | decide | omega)
    have hrLetsInOutside : Room 5 _ := hr.mono (by first | decide | omega)
    refine ⟨_, (pss_cons (ps_set (i := 2) nd rfl (Or.inl rfl) (pe_lst (pa_cons (pe_tup (pa_cons (pv 0) (pa_cons (pv 1) pa_nil))) pa_nil)))
      (pss_cons (ps_while PassesOwn.never (pt_truth (pv 2) (fun _ => rfl)) (pss_cons (ps_set (i := 3) nd rfl (Or.inr rfl) (pe_bm0 PySem.F.plainAttrs_list PySem.F.slot_list_pop PySem.F.type_list_pop mt_pop (pv 2)))
      (pss_cons (ps_if (pt_not (pt_val (pe_call GLetsInOutside hrLetsInOutside rfl mLetsInOutside kLetsInOutside bLetsInOutside .nil pass0 (pa_cons (pe_ix (r := rIxT K) ix_tup (pv 3) pe_int (fun _ _ => rfl)) (pa_cons (pe_ix (r := rIxT K) ix_tup (pv 3) pe_int (fun _ _ => rfl)) pa_nil))))) (pss_one (ps_ret pe_bl)) pss_nil)
      (pss_cons (ps_set (i := 4) nd rfl (Or.inr rfl) (pe_call GHolderIn hrHolderIn rfl mHolderIn kHolderIn bHolderIn .nil pass0 (pa_cons (pe_ix (r := rIxT K) ix_tup (pv 3) pe_int (fun _ _ => rfl)) pa_nil)))
      (pss_one (ps_expr (pe_bm PySem.F.plainAttrs_list PySem.F.slot_list_extend PySem.F.type_list_extend mt_extend (pv 2) (pa_cons (pe_comp (fv := ["holder", "pair"]) (fs := [4, 3]) rfl (.of (by rfl)) (pi_list (pe_call GStepsOf hrStepsOf rfl mStepsOf kStepsOf bStepsOf .nil pass0 (pa_cons (pv 4) pa_nil))) (fun _ _ _ _ => pts_nil) (fun C s0 H0 fp => (pe_tup (pa_cons (pe_alt (pe_ix (r := rIxL K) ix_list (pv 1) (pv 0) (fun _ _ => rfl)) (pe_dget hu (pv 1) (pv 0) (fun _ _ => rfl))) (pa_cons (pe_alt (pe_ix (r := rIxL K) ix_list (pe_ix (r := rIxT K) ix_tup (pv 2) pe_int (fun _ _ => rfl)) (pv 0) (fun _ _ => rfl)) (pe_dget hu (pe_ix (r := rIxT K) ix_tup (pv 2) pe_int (fun _ _ => rfl)) (pv 0) (fun _ _ => rfl))) pa_nil))))) pa_nil))))))))
      (pss_one (ps_ret pe_bl)))), ?_⟩
    refine ⟨_, rfl, _, rfl, two_line, fun t0 ht0 => ⟨one_line, fun L hL => ?_⟩⟩
    have s0 := (Same.new (o := .tup [v, y]) ht0).trans (Same.new (o := .lst [.ref t0]) hL)
    have nL : H L = none := (Same.new (o := .tup [v, y]) ht0).free hL
    have ft : upd (upd H t0 (.tup [v, y])) L (.lst [.ref t0]) t0 = some (.tup [v, y]) := by rw [upd_ne (ne_of_none upd_same hL), upd_same]
    dsimp only [gName, tSeq]
    refine while_W (fun m σ Hi => ∃ (ts : List Addr) (ps : List (Ak × Pt)) (o2 o3 : Option V), σ = [some v, some y, some (.ref L), o2, o3] ∧ Same H Hi ∧ Hi L = some (.lst (ts.map V.ref)) ∧ PairsAt H Hi ts (ps.map fun p => (p.1.pt, p.2)) ∧ (∀ p ∈ ps, p.1.ok ∧ p.2.doc ∧ p.1.size ≤ 900 ∧ p.2.size ≤ 900) ∧ m = sumA ps ∧ m ≤ a0.size ∧ Ak.lets a0 t = ps.all fun p => Ak.lets p.1 p.2)
      a0.size ⟨[t0], [(a0, t)], none, none, rfl, s0, upd_same, .cons ft hv hy .nil, fun p hp => by rw [List.mem_singleton.mp hp]; exact ⟨hok, dt, za, zt⟩, by simp [sumA], Nat.le_refl _, by simp⟩ ?_ (fun σ H Q Q' h ⟨v, e, k, t, q⟩ => ⟨v, e, k, t, h _ _ q⟩)
    rintro m σ Hi ⟨ts, ps, o2, o3, rfl, si, hLi, pa, dd, rfl, hm, he⟩
    refine ⟨_, rfl, _, .inl ⟨_, SqL.of hLi, rfl⟩, ?_⟩
    have lps := pa.length
    rw [List.length_map] at lps
    by_cases hne : ps = []
    · subst hne
      have : ts = [] := by cases ts with | nil => rfl | cons _ _ => simp at lps
      subst this
      rw [he] at q
      exact iteF (q Hi si)
    · obtain ⟨qs, p, rfl⟩ : ∃ qs p, ps = qs ++ [p] := ⟨ps.dropLast, ps.getLast hne, (List.dropLast_concat_getLast hne).symm⟩
      have tne : ts ≠ [] := fun z => by subst z; simp at lps
      obtain ⟨us, t1, qs', p', u, w, rfl, eq', pu, ht1, hu, hw⟩ := pa.snoc tne
      rw [List.map_append] at eq'
      obtain ⟨e1, e2⟩ := List.append_inj eq' (by
        have := pu.length
        have := congrArg List.length eq'
        simp at this ⊢
        omega)
      have e3 : (p.1.pt, p.2) = p' := by simpa using e2
      subst e1 e3
      refine iteBT (by simp) ?_
      obtain ⟨d1, d2, z1, z2⟩ := dd p (by simp)
      have lq := sumA_len qs
      have sz : sumA (qs ++ [p]) = sumA qs + p.1.size := by rw [sumA_append]; simp [sumA]
      have pp := Ak.size_pos p.1
      have lu := pu.length
      rw [List.length_map] at lu
      refine ⟨_, rfl, .inl ⟨rfl, _, SqL.of hLi⟩, L, _, .ref t1, rfl, rfl, hLi, by simp, ?_⟩
      have dl : (List.map V.ref (us ++ [t1])).dropLast = us.map V.ref := by rw [List.map_append]; simp
      rw [dl]
      have s1 : Same H (upd Hi L (.lst (us.map V.ref))) := si.put nL
      have nt : t1 ≠ L := ne_of ht1 hLi (by intro z; cases z)
      have ht1' : upd Hi L (.lst (us.map V.ref)) t1 = some (.tup [u, w]) := by rw [upd_ne nt]; exact ht1
      have pu1 : PairsAt H (upd Hi L (.lst (us.map V.ref))) us (qs.map fun p => (p.1.pt, p.2)) := pu.up fun a b c e => by rw [upd_ne (ne_of e hLi (by intro z; cases z))]; exact e
      have hL1 : upd Hi L (.lst (us.map V.ref)) L = some (.lst (us.map V.ref)) := upd_same
      generalize upd Hi L (.lst (us.map V.ref)) = H1 at s1 ht1' pu1 hL1 ⊢
      refine ⟨_, rfl, t1, _, 0, u, rfl, rfl, SqT.of ht1', at0, _, rfl, t1, _, 1, w, rfl, rfl, SqT.of ht1', at1, u, w, p.1, p.2, rfl, hu.up s1, hw.up s1, d1, d2, z1, z2, fun H2 s2 => ?_⟩
      have ha : (qs ++ [p]).all (fun p => Ak.lets p.1 p.2) = (qs.all (fun p => Ak.lets p.1 p.2) && Ak.lets p.1 p.2) := by rw [List.all_append]; simp
      cases ho : Ak.outB p.1 p.2 with
      | false =>
        have e0 := Ak.lets_out ho
        rw [he, ha, e0, Bool.and_false] at q
        exact ⟨_, rfl, iteBT rfl (q H2 (s1.trans s2))⟩
      | true =>
        refine ⟨_, rfl, iteBF rfl ?_⟩
        have ht2 := s2 _ _ ht1'
        refine ⟨_, rfl, t1, _, 0, u, rfl, rfl, SqT.of ht2, at0, H, u, p.1, rfl, s1.trans s2, hu, fun hd H3 s3 cs => ?_⟩
        have ht3 := s3 _ _ ht2
        have s13 := s2.trans s3
        have S3 := s1.trans s13
        have fin : ∀ (D : Addr) (tt : List Addr) (qq : List (Ak × Pt)) (H5 : Hp) (o2 o3 : Option V), Same H3 H5 → H5 D = some (.lst (tt.map V.ref)) → PairsAt H H5 tt (qq.map fun p => (p.1.pt, p.2)) → Ak.Kp p.1 p.2 qq → (∀ x ∈ qq, x.1.ok ∧ x.2.doc ∧ x.1.size < p.1.size ∧ x.2.size < p.2.size) → sumA qq < p.1.size →
            rExtend (.ref L) [.ref D] H5 fun _ H6 => ∃ m', m' < sumA (qs ++ [p]) ∧ ∃ (ts : List Addr) (ps : List (Ak × Pt)) (o2' o3' : Option V), [some v, some y, some (.ref L), o2, o3] = [some v, some y, some (.ref L), o2', o3'] ∧ Same H H6 ∧ H6 L = some (.lst (ts.map V.ref)) ∧ PairsAt H H6 ts (ps.map fun p => (p.1.pt, p.2)) ∧ (∀ p ∈ ps, p.1.ok ∧ p.2.doc ∧ p.1.size ≤ 900 ∧ p.2.size ≤ 900) ∧ m' = sumA ps ∧ m' ≤ a0.size ∧ Ak.lets a0 t = ps.all fun p => Ak.lets p.1 p.2 := fun D tt qq H5 o2 o3 s5 hD pq kq oq sq => by
          have s15 := s13.trans s5
          have ltq := pq.length
          rw [List.length_map] at ltq
          have lqq := sumA_len qq
          refine ⟨L, D, _, _, rfl, rfl, s15 _ _ hL1, hD, le_line (by rw [List.length_map, List.length_map]; omega), sumA (qs ++ qq), by rw [sumA_append, sz]; omega, us ++ tt, qs ++ qq, o2, o3, rfl, (s1.trans s15).put nL, by rw [upd_same, List.map_append], ?_, ?_, rfl, ?_, ?_⟩
          · rw [List.map_append]
            refine PairsAt.append ?_ ?_
            · exact (pu1.up fun a b c e => s15 _ _ e).up fun a b c e => by rw [upd_ne (ne_of e (s15 _ _ hL1) (by intro z; cases z))]; exact e
            · exact pq.up fun a b c e => by rw [upd_ne (ne_of e (s15 _ _ hL1) (by intro z; cases z))]; exact e
          · intro x hx
            rcases List.mem_append.mp hx with hx | hx
            · exact dd x (by simp [hx])
            · obtain ⟨a1, a2, a3, a4⟩ := oq x hx
              exact ⟨a1, a2, by omega, by omega⟩
          · rw [sumA_append]; omega
          · rw [he, ha, List.all_append, Ak.lets_kids d1 ho kq]
        refine ⟨_, rfl, .inl ⟨rfl, _, SqL.of (s13 _ _ hL1)⟩, ?_⟩
        rcases cs with ⟨rt, hh⟩ | ⟨na, P2, rfl, hP2⟩
        · have hst : Holdy p.1.hold := by
            rcases rt with ⟨xs, m, e⟩ | ⟨ks, xs, ls, m, e⟩
            · rw [e] at z1 ⊢
              simp only [Ak.size] at z1
              have := Ak.lenL xs
              show (Ak.ptL xs).length ≤ 900
              rw [Ak.ptL_map, List.length_map]; omega
            · rw [e] at d1 ⊢
              simp only [Ak.ok] at d1
              refine ⟨?_, Nat.lt_trans d1.2.2.2.1 (by decide)⟩
              rw [Ak.ptL_map, List.length_map]; exact d1.1
          refine ⟨_, rfl, hd, p.1.hold, rfl, hh.up S3, hst, fun D0 l H4 s4 n4 hD0 st => ?_⟩
          obtain ⟨es, fs, qq, PR⟩ : ∃ es fs qq, Prs H hd w p.1 p.2 l es fs qq := by
            rcases rt with ⟨xs, m, e⟩ | ⟨ks, xs, ls, m, e⟩
            · rw [e] at hh d1 ho st ⊢
              exact pairs_row hh hw d1 d2 ho st
            · rw [e] at hh d1 ho st ⊢
              exact pairs_tab hh hw d1 d2 ho st
          have lqq := sumA_len qq
          have lpp := PR.lp
          have lsm := PR.sm
          have gi : ∀ {i : Nat} {x : V}, l[i]? = some x → l.getD i .non = x := fun h => by rw [List.getD_eq_getElem?_getD, h]; rfl
          refine ⟨D0, rfl, ⟨_, SqL.of hD0⟩, ?_⟩
          refine comp_pairs l.length (fun i => l.getD i .non) es fs PR.le PR.lf (by omega) (fun i H5 hi s5 => ⟨_, _, s5.seq (SqL.of hD0), List.getElem?_eq_getElem hi⟩) (fun i H5 v H' hi s5 yl => ?_) (fun H5 s5 => ⟨_, s5.seq (SqL.of hD0), Nat.le_refl _⟩) (fun i H5 R x z hi s5 hx hz r => ?_) (fun D H5 tt hD s5 hl lt tp => ?_)
          · obtain ⟨e, yl⟩ := yl
            exact ⟨(gi (yl _ (s5.seq (SqL.of hD0)))).symm, e⟩
          · obtain ⟨st1, hs1, g1⟩ := PR.ge i x hx
            obtain ⟨st2, hs2, g2⟩ := PR.gf i z hz
            rw [hs1] at hs2
            cases hs2
            rw [gi hs1]
            have SS := (S3.trans s4).trans s5
            have ht5 := s5 _ _ (s4 _ _ ht3)
            have first : ∀ R' : VK, R' x H5 → (fun σ H Q => tOp (rIxL K) (tVar 1) (tVar 0) σ H Q ∨ tDGet (tVar 1) (tVar 0) σ H Q) [some st1, some hd, some (.ref t1)] H5 R' := fun R' r' => by
              rcases g1 with ⟨a, xs, j, rfl, h, rfl, e2⟩ | ⟨a, kvs, k, rfl, h, rfl, e2⟩
              · exact .inl ⟨_, rfl, _, rfl, a, _, _, _, rfl, rfl, .inl (h.up (SS _)), atI_nat e2, r'⟩
              · refine .inr ⟨_, rfl, _, rfl, a, x, rfl, ?_, r'⟩
                rw [← e2]
                exact .inl ⟨_, Sum.inr k, h.up (SS _), rfl, rfl⟩
            refine first _ ?_
            rcases g2 with ⟨a, xs, j, rfl, h, rfl, e2⟩ | ⟨a, kvs, k, rfl, h, rfl, e2⟩
            · exact .inl ⟨_, rfl, t1, _, 1, _, rfl, rfl, SqT.of ht5, at1, _, rfl, a, _, _, _, rfl, rfl, .inl (h.up (SS _)), atI_nat e2, two_line, fun p hp => r p hp⟩
            · refine .inr ⟨_, rfl, t1, _, 1, _, rfl, rfl, SqT.of ht5, at1, _, rfl, a, z, rfl, ?_, two_line, fun p hp => r p hp⟩
              rw [← e2]
              exact .inl ⟨_, Sum.inr k, h.up (SS _), rfl, rfl⟩
          · exact fin D tt qq H5 _ _ (s4.trans s5) hl (PairsAt.of (by omega) (by rw [PR.le, lpp]) (by rw [PR.lf, lpp]) PR.va PR.vb tp) PR.kp PR.ok PR.sm
        · refine ⟨_, rfl, .ref P2, .lst [], rfl, .lst (.inl hP2) .nil, Nat.zero_le _, fun D0 l H4 s4 n4 hD0 st => ?_⟩
          have el : l = [] := st
          subst el
          refine ⟨D0, rfl, ⟨_, SqL.of hD0⟩, ?_⟩
          refine comp_pairs 0 (fun i => .non) [] [] rfl rfl (Nat.zero_le _) (fun i H5 hi s5 => absurd hi (Nat.not_lt_zero _)) (fun i H5 v H' hi s5 yl => absurd hi (Nat.not_lt_zero _)) (fun H5 s5 => ⟨_, s5.seq (SqL.of hD0), Nat.le_refl _⟩) (fun i H5 R x z hi => absurd hi (Nat.not_lt_zero _)) (fun D H5 tt hD s5 hl lt tp => ?_)
          have ett : tt = [] := List.length_eq_zero_iff.mp lt
          subst ett
          refine fin D [] [] H5 _ _ (s4.trans s5) hl .nil ?_ (fun x hx => by cases hx) (by show 0 < _; omega)
          rcases na with e | ⟨d, e⟩
          · rw [e]; rfl
          · rw [e]; rfl
end
end K41

set_option Elab.async false
set_option linter.all false
set_option maxRecDepth 100000
set_option maxHeartbeats 40000000
namespace K41
open PySem L2
section
variable {P : Program} {w : World} {K : PySem.W.Frag} {mg : Str → Option Value} {base : Heap}
theorem scLetsInOutside : FnScope ["asks", "doc"] ["asks", "doc"] (defScope sLetsInOutside) := ⟨rfl, rfl, rfl, by decide +kernel, rfl, by decide +kernel, by decide +kernel⟩
theorem ok_LetsInOutside {f : Addr} {fd : FuncData} (F : Fun K "lets_in_outside" "lets_in_outside" sLetsInOutside f fd) (T : Txt mg) (DAreEqual : Df P w K mg base "are_equal" ["one", "other"] 4 spEqual) (DIsCount : Df P w K mg base "is_count" ["count", "least", "more"] 1 spCount) (DHasNames : Df P w K mg base "has_names" ["asks", "doc"] 2 spNamesIn) : FnOk P w K mg base CX0 5 f fd ["asks", "doc"] spOut := by
  obtain ⟨fAreEqual, dAreEqual, kAreEqual, bAreEqual, mAreEqual, GAreEqual⟩ := DAreEqual.ex
  obtain ⟨fIsCount, dIsCount, kIsCount, bIsCount, mIsCount, GIsCount⟩ := DIsCount.ex
  obtain ⟨fHasNames, dHasNames, kHasNames, bHasNames, mHasNames, GHasNames⟩ := DHasNames.ex
  refine F.ok scLetsInOutside (fun vs H Q E h => ?_) (fun cdv A outer s H vs Q E hr h => ?_)
  · obtain ⟨v, y, a0, t, rfl, hv, hy, hok, dt, za, zt, q⟩ := h
    rfl
  · obtain ⟨v, y, a0, t, rfl, hv, hy, hok, dt, za, zt, q⟩ := h
    have nd := scLetsInOutside.nd
    have hu := hu_of hr
    have hrAreEqual : Room 4 _ := hr.mono (by first | decide | omega)
    have hrIsCount : Room 1 _ := hr.mono (by first | decide | omega)
    have hrHasNames : Room 2 _ := hr.mono (by first | decide | omega)
    refine ⟨_, (pss_cons (ps_if (pt_cmpR op_eq (pe_ix (r := rIxT K) ix_tup (pv 0) pe_int (fun _ _ => rfl)) pe_str (nomark _)) (pss_one (ps_ret pe_bl)) pss_nil)
      (pss_cons (ps_if (pt_cmpR op_eq (pe_ix (r := rIxT K) ix_tup (pv 0) pe_int (fun _ _ => rfl)) pe_str (nomark _)) (pss_one (ps_ret (pe_call GAreEqual hrAreEqual rfl mAreEqual kAreEqual bAreEqual .nil pass0 (pa_cons (pe_ix (r := rIxT K) ix_tup (pv 0) pe_int (fun _ _ => rfl)) (pa_cons (pv 1) pa_nil))))) pss_nil)
      (pss_cons (ps_if (pt_cmpR op_eq (pe_ix (r := rIxT K) ix_tup (pv 0) pe_int (fun _ _ => rfl)) pe_str (nomark _)) (pss_one (ps_ret (pe_and (pe_callB call_isiN rfl T.isinstance b_isinstance (pa_cons (pv 1) (pa_cons (pe_bltn (v := .ty "list") rfl T.list b_list rfl) pa_nil))) (pe_one (pe_call GIsCount hrIsCount rfl mIsCount kIsCount bIsCount .nil pass0 (pa_cons (pe_callB call_len_seq rfl T.len PySem.boot_len (pa_cons (pv 1) pa_nil)) (pa_cons (pe_callB call_len_seq rfl T.len PySem.boot_len (pa_cons (pe_ix (r := rIxT K) ix_tup (pv 0) pe_int (fun _ _ => rfl)) pa_nil)) (pa_cons (pe_ix (r := rIxT K) ix_tup (pv 0) pe_int (fun _ _ => rfl)) pa_nil)))))))) pss_nil)
      (pss_one (ps_ret (pe_and (pe_callB call_isiN rfl T.isinstance b_isinstance (pa_cons (pv 1) (pa_cons (pe_bltn (v := .ty "dict") rfl T.dict b_dict rfl) pa_nil))) (pe_one (pe_call GHasNames hrHasNames rfl mHasNames kHasNames bHasNames .nil pass0 (pa_cons (pv 0) (pa_cons (pv 1) pa_nil)))))))))), ?_⟩
    obtain ⟨t0, w0, rest, rfl, ht, cs⟩ := hv.ak
    rcases cs with ⟨rfl, rfl, rfl⟩ | ⟨d, u, rfl, rfl, rfl, hu⟩ | ⟨xs, m, u, rfl, rfl, rfl, hu⟩ | ⟨ks, xs, ls, m, u, z, rfl, rfl, rfl, hu, hz⟩
    · refine ⟨_, rfl, t0, _, 0, _, rfl, rfl, SqT.of ht, at0, rfl, _, rfl, iteBT (by decide +kernel) (q H (Same.refl H))⟩
    · refine ⟨_, rfl, t0, _, 0, _, rfl, rfl, SqT.of ht, at0, rfl, _, rfl, iteBF (by decide +kernel) ?_⟩
      refine ⟨_, rfl, t0, _, 0, _, rfl, rfl, SqT.of ht, at0, rfl, _, rfl, iteBT (by decide +kernel) ?_⟩
      simp only [Ak.ok] at hok
      exact ⟨_, rfl, t0, _, 1, u, rfl, rfl, SqT.of ht, at1, _, rfl, u, y, d, t, rfl, hu, hy, hok.2.1, dt, by omega, zt, q⟩
    · refine ⟨_, rfl, t0, _, 0, _, rfl, rfl, SqT.of ht, at0, rfl, _, rfl, iteBF (by decide +kernel) ?_⟩
      refine ⟨_, rfl, t0, _, 0, _, rfl, rfl, SqT.of ht, at0, rfl, _, rfl, iteBF (by decide +kernel) ?_⟩
      refine ⟨_, rfl, t0, _, 0, _, rfl, rfl, SqT.of ht, at0, rfl, _, rfl, iteBT (by decide +kernel) ?_⟩
      refine ⟨_, rfl, _, "list", t.tyS, rfl, rfl, hy.ty, _, rfl, ?_⟩
      cases hu with
      | @lst a vs _ ha ra =>
        have la := ra.length
        rw [Ak.ptL_map, List.length_map] at la
        cases hy with
        | @lst b ws ys hb rb =>
          have lb := rb.length
          refine iteT ⟨_, rfl, b, _, rfl, .inl (.inl hb), _, rfl, t0, _, 1, _, rfl, rfl, SqT.of ht, at1, a, _, rfl, .inl (.inl ha), _, rfl, t0, _, 2, _, rfl, rfl, SqT.of ht, at2, ws.length, vs.length, m, rfl, ?_⟩
          have e : Ak.outB (.row xs m) (.lst ys) = Ak.cnt ws.length vs.length m := by simp only [Ak.outB, la, lb]
          rw [e] at q
          exact q H (Same.refl H)
        | int i => exact iteF (q H (Same.refl H))
        | str i => exact iteF (q H (Same.refl H))
        | bl b => simp [Pt.doc] at dt
        | tup _ _ => simp [Pt.doc] at dt
        | dct _ _ _ => exact iteF (q H (Same.refl H))
    · refine ⟨_, rfl, t0, _, 0, _, rfl, rfl, SqT.of ht, at0, rfl, _, rfl, iteBF (by decide +kernel) ?_⟩
      refine ⟨_, rfl, t0, _, 0, _, rfl, rfl, SqT.of ht, at0, rfl, _, rfl, iteBF (by decide +kernel) ?_⟩
      refine ⟨_, rfl, t0, _, 0, _, rfl, rfl, SqT.of ht, at0, rfl, _, rfl, iteBF (by decide +kernel) ?_⟩
      refine ⟨_, rfl, _, "dict", t.tyS, rfl, rfl, hy.ty, _, rfl, ?_⟩
      cases hy with
      | @dct b kws ns ys hb hkb rb => exact iteT ⟨_, rfl, _, rfl, .ref t0, .ref b, ks, xs, ls, m, ns, ys, rfl, hv, .dct hb hkb rb, hok, dt, q⟩
      | int i => exact iteF (q H (Same.refl H))
      | str i => exact iteF (q H (Same.refl H))
      | bl b => simp [Pt.doc] at dt
      | tup _ _ => simp [Pt.doc] at dt
      | lst _ _ => exact iteF (q H (Same.refl H))
end
end K41

set_option Elab.async false
set_option linter.all false
set_option maxRecDepth 100000
set_option maxHeartbeats 40000000
namespace K41
open PySem L2
section
variable {P : Program} {w : World} {K : PySem.W.Frag} {mg : Str → Option Value} {base : Heap}
theorem scIsCount : FnScope ["count", "least", "more"] ["count", "least", "more"] (defScope sIsCount) := ⟨rfl, rfl, rfl, by decide +kernel, rfl, by decide +kernel, by decide +kernel⟩
theorem ok_IsCount {f : Addr} {fd : FuncData} (F : Fun K "is_count" "is_count" sIsCount f fd) (T : Txt mg) : FnOk P w K mg base CX0 1 f fd ["count", "least", "more"] spCount := by
  refine F.ok scIsCount (fun vs H Q E h => ?_) (fun cdv A outer s H vs Q E hr h => ?_)
  · obtain ⟨c, l, m, rfl, q⟩ := h
    rfl
  · obtain ⟨c, l, m, rfl, q⟩ := h
    have nd := scIsCount.nd
    have hu := hu_of hr
    refine ⟨_, (pss_one (ps_ret (pe_or (pe_cmpR op_eq (pv 0) (pv 1) (nomark _)) (pe_one (pe_and (pv 2) (pe_one (pe_cmpR op_gt (pv 0) (pv 1) (nomark _)))))))), ?_⟩
    refine ⟨_, rfl, _, rfl, rfl, _, rfl, ?_⟩
    by_cases e : c = l
    · subst e
      have : Ak.cnt c c m = true := by simp [Ak.cnt]
      rw [this] at q
      exact iteBT (by simp) q
    · have ne : decide (V.int (c : Int) = V.int (l : Int)) = false := decide_eq_false fun z => e (Int.ofNat_inj.mp (V.int.inj z))
      refine iteBF ne ?_
      cases m with
      | true =>
        have : Ak.cnt c l true = decide ((l : Int) < (c : Int)) := by
          have e1 : (c == l) = false := by simpa using e
          simp only [Ak.cnt, e1, Bool.false_or, Bool.true_and]
          rw [Bool.eq_iff_iff]; simp
        rw [this] at q
        exact ⟨_, rfl, _, rfl, iteT ⟨_, rfl, _, rfl, _, _, rfl, rfl, q⟩⟩
      | false =>
        have : Ak.cnt c l false = false := by
          have e1 : (c == l) = false := by simpa using e
          simp [Ak.cnt, e]
        rw [this] at q
        exact ⟨_, rfl, _, rfl, iteF q⟩
end
end K41

set_option Elab.async false
set_option linter.all false
set_option maxRecDepth 100000
set_option maxHeartbeats 40000000
namespace K41
open PySem L2
section
variable {P : Program} {w : World} {K : PySem.W.Frag} {mg : Str → Option Value} {base : Heap}
theorem scHasNames : FnScope ["asks", "doc"] ["asks", "doc"] (defScope sHasNames) := ⟨rfl, rfl, rfl, by decide +kernel, rfl, by decide +kernel, by decide +kernel⟩
theorem ok_HasNames {f : Addr} {fd : FuncData} (F : Fun K "has_names" "has_names" sHasNames f fd) (T : Txt mg) (DIsCount : Df P w K mg base "is_count" ["count", "least", "more"] 1 spCount) : FnOk P w K mg base CX0 2 f fd ["asks", "doc"] spNamesIn := by
  obtain ⟨fIsCount, dIsCount, kIsCount, bIsCount, mIsCount, GIsCount⟩ := DIsCount.ex
  refine F.ok scHasNames (fun vs H Q E h => ?_) (fun cdv A outer s H vs Q E hr h => ?_)
  · obtain ⟨v, y, ks, xs, ls, m, ns, ys, rfl, hv, hy, hok, dt, q⟩ := h
    rfl
  · obtain ⟨v, y, ks, xs, ls, m, ns, ys, rfl, hv, hy, hok, dt, q⟩ := h
    have nd := scHasNames.nd
    have hu := hu_of hr
    have hrIsCount : Room 1 _ := hr.mono (by first | decide | omega)
    refine ⟨_, (pss_cons (ps_if (PW.pt (pw_or (pt_val (pe_callB (call_any rfl) rfl T.any b_any (pa_cons (pe_walk (pe_comp (fv := ["doc"]) (fs := [1]) rfl (.of (by rfl)) (pi_dict (pe_ix (r := rIxT K) ix_tup (pv 0) pe_int (fun _ _ => rfl))) (fun _ _ _ _ => pts_nil) (fun C s0 H0 fp => (pe_cmp (pc_dnotin hu (pv 0) (pv 1)))))) pa_nil))) (pw_or1 (pt_val (pe_callB (call_any rfl) rfl T.any b_any (pa_cons (pe_comp (fv := ["doc"]) (fs := [1]) rfl (.of (by rfl)) (pi_list (pe_ix (r := rIxT K) ix_tup (pv 0) pe_int (fun _ _ => rfl))) (fun _ _ _ _ => pts_nil) (fun C s0 H0 fp => (pe_cmp (pc_din hu (pv 0) (pv 1))))) pa_nil)))))) (pss_one (ps_ret pe_bl)) pss_nil)
      (pss_one (ps_ret (pe_call GIsCount hrIsCount rfl mIsCount kIsCount bIsCount .nil pass0 (pa_cons (pe_callB call_lenR rfl T.len PySem.boot_len (pa_cons (pv 1) pa_nil)) (pa_cons (pe_callB call_lenR rfl T.len PySem.boot_len (pa_cons (pe_ix (r := rIxT K) ix_tup (pv 0) pe_int (fun _ _ => rfl)) pa_nil)) (pa_cons (pe_ix (r := rIxT K) ix_tup (pv 0) pe_int (fun _ _ => rfl)) pa_nil))))))), ?_⟩
    obtain ⟨t, w0, rest, rfl, ht, cs⟩ := hv.ak
    rcases cs with ⟨e, _⟩ | ⟨d, u, e, _⟩ | ⟨xs', m', u, e, _⟩ | ⟨ks', xs', ls', m', u, z, e, rfl, rfl, hu, hz⟩
    · cases e
    · cases e
    · cases e
    cases e
    have isIn : ∀ {kws : List (Key × V)}, kws.map (·.1) = ns.map Sum.inr → ∀ k : Str, (valV kws (Sum.inr k)).isSome = decide (k ∈ ns) := fun {kws} hk k => by
      rw [Bool.eq_iff_iff, decide_eq_true_iff]
      have mi : (Sum.inr k : Key) ∈ kws.map (·.1) ↔ k ∈ ns := by
        rw [hk]
        constructor
        · intro h
          obtain ⟨y, hy, e⟩ := List.mem_map.mp h
          rw [← Sum.inr.inj e]; exact hy
        · exact fun h => List.mem_map_of_mem h
      rw [← mi]
      cases e : valV kws (Sum.inr k : Key) with
      | none => simp only [Option.isSome_none]; exact ⟨(fun h => nomatch h), fun h => absurd h (valV_not e)⟩
      | some z => simp only [Option.isSome_some]; exact ⟨fun _ => valV_in e, fun _ => trivial⟩
    simp only [Ak.ok] at hok
    obtain ⟨o1, o2, o3, o4, o5, o6, o7⟩ := hok
    cases hu with
    | @dct a kvs _ _ ha hka ra =>
      cases hz with
      | @lst l vl _ hl rl =>
        cases hy with
        | @dct b kws _ _ hb hkb rb =>
          have kl : kvs.length = ks.length := by have := congrArg List.length hka; simpa using this
          have klb : kws.length = ns.length := by have := congrArg List.length hkb; simpa using this
          simp only [Pt.doc] at dt
          have keyAt : ∀ (i : Nat) k v, kvs[i]? = some (k, v) → i < ks.length ∧ k = Sum.inr (ks.getD i "") := fun i k v e => by
            have hi := (List.getElem?_eq_some_iff.mp e).1
            rw [kl] at hi
            refine ⟨hi, ?_⟩
            have e2 := congrArg (fun z => z[i]?) hka
            simp only [List.getElem?_map, e, List.getElem?_eq_getElem hi] at e2
            have e2 : k = Sum.inr ks[i] := by simpa using e2
            rw [e2, List.getD_eq_getElem?_getD, List.getElem?_eq_getElem hi]
            rfl
          have vls : vl = ls.map V.str := by
            have gen : ∀ {vs : List V} {ls : List Str}, ValL H vs (ls.map Pt.str) → vs = ls.map V.str := by
              intro vs ls
              induction ls generalizing vs with
              | nil => intro h; cases h; rfl
              | cons x r ih =>
                intro h
                cases h with
                | cons h1 h2 => cases h1; rw [List.map_cons, ih h2]
            exact gen rl
          subst vls
          refine ⟨a, kvs, ha, fun o Hf F => ⟨_, rfl, t, _, 1, .ref a, rfl, rfl, SqT.of ((Kps.frz F).tp _ _ ht), at1, a, o, _, rfl, F.at_, ?_⟩⟩
          refine comp_pure (n := ks.length) (fun i => .str (ks.getD i "")) (fun i => .bl (!decide (ks.getD i "" ∈ ns))) (fun _ => true) (le_line (by omega)) (fun i D ys hi hD => ⟨by rw [upd_ne (ne_of_none F.at_ hD)]; exact F.at_, by rw [kl]; exact hi⟩) (fun i D ys v H' hi hD y => ?_)
            (fun D ys hD => ⟨by rw [upd_ne (ne_of_none F.at_ hD)]; exact F.at_, kl.symm⟩) (fun i D ys R hi hD r => by exact r) (fun i D ys R hi hD _ r => ?_) (fun D hD => ?_)
          · obtain ⟨e, k, w', e1, e2⟩ := y
            rw [(keyAt i k w' e1).2] at e2
            exact ⟨e2, e⟩
          · have rdb : Rd (upd Hf D (.lst ys)) b (.dK kws) := (F.rd _ _ hb).up fun o e => by rw [upd_ne (ne_of_none e hD)]; exact e
            refine ⟨_, rfl, _, rfl, b, _, rfl, .inl ⟨kws, Sum.inr (ks.getD i ""), rdb, rfl, rfl⟩, ?_⟩
            rw [isIn hkb]
            exact r
          · have hD0 := F.free hD
            refine ⟨by rw [upd_ne (ne_of_none F.at_ hD)]; exact F.at_, ?_⟩
            have s1 : Same H (back a H (upd Hf D (.lst ((List.filter (fun _ => true) (List.range ks.length)).map fun i => V.bl (!decide (ks.getD i "" ∈ ns)))))) := F.back (Same.new hD)
            have fD : back a H (upd Hf D (.lst ((List.filter (fun _ => true) (List.range ks.length)).map fun i => V.bl (!decide (ks.getD i "" ∈ ns))))) D = some (.lst ((ks.map fun k => !decide (k ∈ ns)).map V.bl)) := by
              rw [back_ne hD0.2, upd_same]
              congr 2
              rw [List.filter_eq_self.mpr fun _ _ => rfl, List.map_map]
              refine List.ext_getElem (by simp) fun i h1 h2 => ?_
              simp only [List.getElem_map, List.getElem_range, Function.comp]
              have hi : i < ks.length := by simpa using h1
              rw [List.getD_eq_getElem?_getD, List.getElem?_eq_getElem hi]
              rfl
            generalize back a H (upd Hf D (.lst ((List.filter (fun _ => true) (List.range ks.length)).map fun i => V.bl (!decide (ks.getD i "" ∈ ns))))) = H1 at s1 fD ⊢
            refine ⟨D, ks.map (fun k => !decide (k ∈ ns)), rfl, SqL.of fD, _, rfl, ?_⟩
            have ea : (ks.map fun k => !decide (k ∈ ns)).any id = !(ks.all fun k => decide (k ∈ ns)) := by
              rw [List.any_map, List.not_all_eq_any_not]
              rfl
            rw [ea]
            have ht1 := s1 _ _ ht
            cases hall : ks.all (fun k => decide (k ∈ ns)) with
            | false =>
              have e : Ak.outB (.tab ks xs ls m) (.dct ns ys) = false := by simp only [Ak.outB, hall, Bool.false_and]
              rw [e] at q
              exact iteT (iteT (q H1 s1))
            | true =>
              refine iteF ?_
              refine ⟨_, rfl, t, _, 2, .ref l, rfl, rfl, SqT.of ht1, at2, l, rfl, ⟨_, .inl (hl.up (s1 _))⟩, ?_⟩
              have rl1 := hl.up (s1 _)
              have li : ∀ i, i < ls.length → (ls.map V.str)[i]? = some (.str (ls.getD i "")) := fun i hi => by
                rw [List.getElem?_map, List.getElem?_eq_getElem hi, List.getD_eq_getElem?_getD, List.getElem?_eq_getElem hi]
                rfl
              have up2 : ∀ {D : Addr} {zs : List V}, H1 D = none → Rd (upd H1 D (.lst zs)) l (.lst (ls.map V.str)) := fun h => rl1.up fun o e => by rw [upd_ne (ne_of_none e h)]; exact e
              refine comp_pure (n := ls.length) (fun i => .str (ls.getD i "")) (fun i => .bl (decide (ls.getD i "" ∈ ns))) (fun _ => true) (le_line (by omega)) (fun i D zs hi hD => ⟨_, _, .inl (up2 hD), li i hi⟩) (fun i D zs v H' hi hD y => ?_)
                (fun D zs hD => ⟨_, .inl (up2 hD), by rw [List.length_map]; exact Nat.le_refl _⟩) (fun i D zs R hi hD r => by exact r) (fun i D zs R hi hD _ r => ?_) (fun D2 hD2 => ?_)
              · obtain ⟨e, y⟩ := y
                have := y _ (.inl (up2 hD))
                rw [li i hi] at this
                exact ⟨(Option.some.inj this).symm, e⟩
              · have rdb : Rd (upd H1 D (.lst zs)) b (.dK kws) := (hb.up (s1 _)).up fun o e => by rw [upd_ne (ne_of_none e hD)]; exact e
                refine ⟨_, rfl, _, rfl, b, _, rfl, .inl ⟨kws, Sum.inr (ls.getD i ""), rdb, rfl, rfl⟩, ?_⟩
                rw [isIn hkb]
                exact r
              · have s2 := s1.trans (Same.new (o := .lst ((List.filter (fun _ => true) (List.range ls.length)).map fun i => V.bl (decide (ls.getD i "" ∈ ns)))) hD2)
                have fD2 : upd H1 D2 (.lst ((List.filter (fun _ => true) (List.range ls.length)).map fun i => V.bl (decide (ls.getD i "" ∈ ns)))) D2 = some (.lst ((ls.map fun k => decide (k ∈ ns)).map V.bl)) := by
                  rw [upd_same]
                  congr 2
                  rw [List.filter_eq_self.mpr fun _ _ => rfl, List.map_map]
                  refine List.ext_getElem (by simp) fun i h1 h2 => ?_
                  simp only [List.getElem_map, List.getElem_range, Function.comp]
                  have hi : i < ls.length := by simpa using h1
                  rw [List.getD_eq_getElem?_getD, List.getElem?_eq_getElem hi]
                  rfl
                generalize upd H1 D2 (.lst ((List.filter (fun _ => true) (List.range ls.length)).map fun i => V.bl (decide (ls.getD i "" ∈ ns)))) = H2 at s2 fD2 ⊢
                refine ⟨D2, ls.map (fun k => decide (k ∈ ns)), rfl, SqL.of fD2, _, rfl, ?_⟩
                have eb : (ls.map fun k => decide (k ∈ ns)).any id = ls.any fun k => decide (k ∈ ns) := by
                  rw [List.any_map]
                  rfl
                rw [eb]
                have ht2 := s2 _ _ ht
                cases hany : ls.any (fun k => decide (k ∈ ns)) with
                | true =>
                  have e : Ak.outB (.tab ks xs ls m) (.dct ns ys) = false := by simp [Ak.outB, hall, hany]
                  rw [e] at q
                  exact iteT (q H2 s2)
                | false =>
                  have e : Ak.outB (.tab ks xs ls m) (.dct ns ys) = Ak.cnt ns.length ks.length m := by simp only [Ak.outB, hall, hany, Bool.not_false, Bool.and_self, Bool.true_and]
                  rw [e] at q
                  exact iteF ⟨_, rfl, b, kws, rfl, hb.up (s2 _), _, rfl, t, _, 1, _, rfl, rfl, SqT.of ht2, at1, a, kvs, rfl, ha.up (s2 _), _, rfl, t, _, 3, _, rfl, rfl, SqT.of ht2, atI_nat (j := 3) rfl, kws.length, kvs.length, m, rfl, by rw [klb, kl]; exact q H2 s2⟩
end
end K41

set_option Elab.async false
set_option linter.all false
set_option maxRecDepth 100000
set_option maxHeartbeats 40000000
namespace K41
open PySem L2
section
variable {P : Program} {w : World} {K : PySem.W.Frag} {mg : Str → Option Value} {base : Heap}
theorem scCell : FnScope ["_law_script", "_law_k"] ["_law_script", "_law_k"] (defScope sCell) := ⟨rfl, rfl, rfl, by decide +kernel, rfl, by decide +kernel, by decide +kernel⟩
theorem ok_Cell {f : Addr} {fd : FuncData} (F : Fun K "_law_cell" "_law_cell" sCell f fd) (T : Txt mg) : FnOk P w K mg base CX0 1 f fd ["_law_script", "_law_k"] (spCell K) := by
  refine F.ok scCell (fun vs H Q E h => ?_) (fun cdv A outer s H vs Q E hr h => ?_)
  · obtain ⟨a, ns, k, rfl, hS, q⟩ := h
    rfl
  · obtain ⟨a, ns, k, rfl, hS, q⟩ := h
    have nd := scCell.nd
    have hu := hu_of hr
    refine ⟨_, (pss_cons (ps_if (pt_cmpR op_lt (pv 1) (pe_callB call_len_seq rfl T.len PySem.boot_len (pa_cons (pv 0) pa_nil)) (nomark _)) (pss_one (ps_ret (pe_op op_mod (pe_ix (r := rIxL K) ix_list (pv 0) (pv 1) (fun _ _ => rfl)) (pe_op op_mul pe_int (pe_op op_pow pe_int pe_int))))) pss_nil)
      (pss_one (ps_ret (pe_op op_add pe_int (pe_op op_mul pe_int (pv 1)))))), ?_⟩
    refine ⟨_, rfl, _, rfl, a, _, rfl, .inl hS, _, _, rfl, rfl, _, rfl, ?_⟩
    refine ite2 (fun h1 => ?_) (fun h1 => ?_)
    · have hk : k < ns.length := by
        have := of_decide_eq_true h1
        rw [List.length_map] at this
        omega
      have hx : (ns.map V.int)[k]? = some (.int ns[k]) := by rw [List.getElem?_map, List.getElem?_eq_getElem hk]; rfl
      exact ⟨_, rfl, _, rfl, a, _, _, _, rfl, rfl, hS, atI_nat hx, _, _, rfl, rfl, ⟨by decide, by decide, by decide⟩, _, _, rfl, rfl, .inl ⟨by decide, by decide⟩, _, _, rfl, rfl, (by show (0 : Int) < _; decide), q _ (Int.emod_nonneg _ (by decide))⟩
    · exact ⟨_, rfl, _, _, rfl, rfl, .inl ⟨by decide, by decide⟩, _, _, rfl, rfl, q _ (by omega)⟩
end
end K41

set_option Elab.async false
set_option linter.all false
set_option maxRecDepth 100000
set_option maxHeartbeats 40000000
namespace K41
open PySem L2
section
variable {P : Program} {w : World} {K : PySem.W.Frag} {mg : Str → Option Value} {base : Heap}
theorem scMix : FnScope ["_law_cell_here", "_law_k", "_law_number", "_law_j"] ["_law_cell_here", "_law_k"] (defScope sMix) := ⟨rfl, rfl, rfl, by decide +kernel, rfl, by decide +kernel, by decide +kernel⟩
theorem ok_Mix {f : Addr} {fd : FuncData} (F : Fun K "_law_mix" "_law_mix" sMix f fd) (T : Txt mg) : FnOk P w K mg base CX0 1 f fd ["_law_cell_here", "_law_k"] spMixF := by
  refine F.ok scMix (fun vs H Q E h => ?_) (fun cdv A outer s H vs Q E hr h => ?_)
  · obtain ⟨c, k, rfl, hk, q⟩ := h
    rfl
  · obtain ⟨c, k, rfl, hk, q⟩ := h
    have nd := scMix.nd
    have hu := hu_of hr
    refine ⟨_, (pss_cons (ps_if (PW.pt (pw_and (pt_cmpR op_eq (pe_op op_mod (pv 0) pe_int) pe_int (nomark _)) (pw_and1 (pt_cmpR op_ge (pv 0) (pe_op op_mul pe_int (pe_op op_pow pe_int pe_int)) (nomark _))))) (pss_cons (ps_set (i := 2) nd rfl (Or.inl rfl) (pe_op op_fdiv (pv 0) pe_int))
      (pss_cons (ps_for PassesOwn.never rfl (pi_range1 rfl T.range (pa_cons (pv 1) pa_nil)) (pg_name (i := 3) nd rfl (Or.inl rfl)) (pss_one (ps_set (i := 2) nd rfl (Or.inl rfl) (pe_op op_fdiv (pv 2) pe_int))))
      (pss_one (ps_ret (pe_op op_mod (pv 2) pe_int))))) pss_nil)
      (pss_cons (ps_set (i := 2) nd rfl (Or.inl rfl) (pe_op op_mod (pe_op op_mul (pe_op op_add (pv 0) pe_int) pe_int) pe_int))
      (pss_cons (ps_set (i := 2) nd rfl (Or.inl rfl) (pe_op op_mod (pe_op op_add (pv 2) (pe_op op_mul (pe_op op_add (pv 1) pe_int) pe_int)) pe_int))
      (pss_cons (ps_set (i := 2) nd rfl (Or.inl rfl) (pe_op op_mod (pe_op op_mul (pv 2) (pv 2)) pe_int))
      (pss_cons (ps_set (i := 2) nd rfl (Or.inl rfl) (pe_op op_mod (pe_op op_mul (pe_op op_add (pv 2) pe_int) (pe_op op_add (pe_op op_fdiv (pv 2) pe_int) pe_int)) pe_int))
      (pss_one (ps_ret (pe_op op_fdiv (pv 2) pe_int)))))))), ?_⟩
    have lo : ∀ x : Int, -(2 ^ 64) < x % 2305843009213693951 ∧ x % 2305843009213693951 < 2 ^ 64 := fun x => by
      have h1 := Int.emod_nonneg x (show (2305843009213693951 : Int) ≠ 0 by decide)
      have h2 := Int.emod_lt_of_pos x (show (0 : Int) < 2305843009213693951 by decide)
      constructor <;> omega
    have lo1 : ∀ x : Int, -(2 ^ 64) < x % 999999999999999989 + 1 ∧ x % 999999999999999989 + 1 < 2 ^ 64 := fun x => by
      have h1 := Int.emod_nonneg x (show (999999999999999989 : Int) ≠ 0 by decide)
      have h2 := Int.emod_lt_of_pos x (show (0 : Int) < 999999999999999989 by decide)
      constructor <;> omega
    have q2 : ¬ (c % 4 = 0 ∧ 4 * 10 ^ 60 ≤ c) → Q (.int ((mixN c k + 1) * (mixN c k / 1000003 + 7) % 2305843009213693951 / 7919)) H := fun h => by
      have e : mixF c k = _ := if_neg h
      rw [e] at q
      exact q
    refine ⟨_, rfl, _, _, rfl, rfl, (by show (0 : Int) < _; decide), rfl, _, rfl, ?_⟩
    refine ite2 (fun h1 => ?_) (fun h1 => ?_)
    · refine ⟨_, rfl, _, _, rfl, rfl, ⟨by decide, by decide, by decide⟩, _, _, rfl, rfl, .inl ⟨by decide, by decide⟩, _, _, rfl, rfl, _, rfl, ?_⟩
      have c4 : c % 4 = 0 := V.int.inj (of_decide_eq_true h1)
      refine ite2 (fun h2 => ?_) (fun h2 => ?_)
      · have c60 : 4 * 10 ^ 60 ≤ c := of_decide_eq_true h2
        have e : mixF c k = _ := if_pos ⟨c4, c60⟩
        rw [e] at q
        refine ⟨_, rfl, _, _, rfl, rfl, ⟨by decide, by decide⟩, ?_⟩
        refine ⟨_, rfl, _, rfl, by omega, by omega, for_range (lo := 0) (fun i σ H2 => ∃ (oj : Option V), σ = [some (.int c), some (.int (k : Int)), some (.int (divs i (c / 4))), oj] ∧ H2 = H) ⟨none, rfl, rfl⟩ ?_ ?_⟩
        · rintro i σ H2 hi ⟨oj, rfl, rfl⟩
          exact ⟨_, rfl, _, _, rfl, rfl, ⟨by decide, by decide⟩, _, rfl, rfl⟩
        · rintro σ H2 ⟨oj, rfl, rfl⟩
          rw [Int.toNat_natCast]
          exact ⟨_, rfl, _, _, rfl, rfl, (by show (0 : Int) < _; decide), q⟩
      · have hno : ¬ (c % 4 = 0 ∧ 4 * 10 ^ 60 ≤ c) := fun z => h2 (decide_eq_true z.2)
        refine ⟨_, rfl, _, _, rfl, rfl, _, _, rfl, rfl, .inr ⟨by decide, by decide⟩, _, _, rfl, rfl, (by show (0 : Int) < _; decide), ?_⟩
        refine ⟨_, rfl, _, rfl, _, _, rfl, rfl, _, _, rfl, rfl, .inr ⟨by decide, by decide⟩, _, _, rfl, rfl, _, _, rfl, rfl, (by show (0 : Int) < _; decide), ?_⟩
        refine ⟨_, rfl, _, rfl, _, _, rfl, rfl, .inl (lo _), _, _, rfl, rfl, (by show (0 : Int) < _; decide), ?_⟩
        refine ⟨_, rfl, _, _, rfl, rfl, _, rfl, _, _, rfl, rfl, ⟨by decide, by decide⟩, _, _, rfl, rfl, _, _, rfl, rfl, .inl (lo1 _), _, _, rfl, rfl, (by show (0 : Int) < _; decide), ?_⟩
        exact ⟨_, rfl, _, _, rfl, rfl, ⟨by decide, by decide⟩, q2 hno⟩
    · refine iteF ?_
      have hno : ¬ (c % 4 = 0 ∧ 4 * 10 ^ 60 ≤ c) := fun z => h1 (decide_eq_true (congrArg V.int z.1))
      refine ⟨_, rfl, _, _, rfl, rfl, _, _, rfl, rfl, .inr ⟨by decide, by decide⟩, _, _, rfl, rfl, (by show (0 : Int) < _; decide), ?_⟩
      refine ⟨_, rfl, _, rfl, _, _, rfl, rfl, _, _, rfl, rfl, .inr ⟨by decide, by decide⟩, _, _, rfl, rfl, _, _, rfl, rfl, (by show (0 : Int) < _; decide), ?_⟩
      refine ⟨_, rfl, _, rfl, _, _, rfl, rfl, .inl (lo _), _, _, rfl, rfl, (by show (0 : Int) < _; decide), ?_⟩
      refine ⟨_, rfl, _, _, rfl, rfl, _, rfl, _, _, rfl, rfl, ⟨by decide, by decide⟩, _, _, rfl, rfl, _, _, rfl, rfl, .inl (lo1 _), _, _, rfl, rfl, (by show (0 : Int) < _; decide), ?_⟩
      exact ⟨_, rfl, _, _, rfl, rfl, ⟨by decide, by decide⟩, q2 hno⟩
theorem okW_Mix {f : Addr} {fd : FuncData} (F : Fun K "_law_mix" "_law_mix" sMix f fd) (T : Txt mg) : FnOk P w K mg base CX0 1 f fd ["_law_cell_here", "_law_k"] spMix := (ok_Mix F T).imp fun _ _ _ _ h => spMix_of h
end
end K41

set_option Elab.async false
set_option linter.all false
set_option maxRecDepth 100000
set_option maxHeartbeats 40000000
namespace K41
open PySem L2
section
variable {P : Program} {w : World} {K : PySem.W.Frag} {mg : Str → Option Value} {base : Heap}
theorem scNames : FnScope ["_law_cell_here", "_law_letters", "_law_word", "_law_k", "_law_at", "_law_first"] ["_law_cell_here"] (defScope sNames) := ⟨rfl, rfl, rfl, by decide +kernel, rfl, by decide +kernel, by decide +kernel⟩
theorem ok_Names {f : Addr} {fd : FuncData} (F : Fun K "_law_names" "_law_names" sNames f fd) (T : Txt mg) (DMix : Df P w K mg base "_law_mix" ["_law_cell_here", "_law_k"] 1 spMix) : FnOk P w K mg base CX0 2 f fd ["_law_cell_here"] spNames4 := by
  obtain ⟨fMix, dMix, kMix, bMix, mMix, GMix⟩ := DMix.ex
  refine F.ok scNames (fun vs H Q E h => ?_) (fun cdv A outer s H vs Q E hr h => ?_)
  · obtain ⟨c, rfl, q⟩ := h
    rfl
  · obtain ⟨c, rfl, q⟩ := h
    have nd := scNames.nd
    have hu := hu_of hr
    have hrMix : Room 1 _ := hr.mono (by first | decide | omega)
    refine ⟨_, (pss_cons (ps_set (i := 1) nd rfl (Or.inr rfl) pe_str)
      (pss_cons (ps_set (i := 2) nd rfl (Or.inr rfl) pe_str)
      (pss_cons (ps_for PassesOwn.never rfl (pi_range1 rfl T.range (pa_cons pe_int pa_nil)) (pg_name (i := 3) nd rfl (Or.inl rfl)) (pss_one (ps_set (i := 2) nd rfl (Or.inr rfl) (pe_op op_add_str (pe_op op_add_str (pv 2) (pe_ix ix_str (pv 1) (pe_op op_mod (pe_call GMix hrMix rfl mMix kMix bMix .nil pass0 (pa_cons (pv 0) (pa_cons (pv 3) pa_nil))) pe_int) (fun _ _ => rfl))) (pe_ix ix_str (pv 1) (pe_op op_mod (pe_op op_fdiv (pe_call GMix hrMix rfl mMix kMix bMix .nil pass0 (pa_cons (pv 0) (pa_cons (pv 3) pa_nil))) pe_int) pe_int) (fun _ _ => rfl))))))
      (pss_cons (ps_set (i := 4) nd rfl (Or.inr rfl) (pe_op op_mod (pe_call GMix hrMix rfl mMix kMix bMix .nil pass0 (pa_cons (pv 0) (pa_cons pe_int pa_nil))) pe_int))
      (pss_cons (ps_set (i := 5) nd rfl (Or.inr rfl) (pe_call GMix hrMix rfl mMix kMix bMix .nil pass0 (pa_cons (pv 0) (pa_cons pe_int pa_nil))))
      (pss_cons (ps_if (pt_cmpR op_eq (pe_op op_mod (pv 5) pe_int) pe_int (nomark _)) (pss_one (ps_ret (pe_comp (fv := ["_law_word", "_law_first"]) (fs := [2, 5]) rfl (.of (by rfl)) (pi_range1 rfl T.range (pa_cons pe_int pa_nil)) (fun _ _ _ _ => pts_nil) (fun C s0 H0 fp => (pe_slice sl_str (pv 1) po_none (po_some (pe_op op_add (pe_op op_add (pv 0) pe_int) (pe_op op_mod (pe_op op_fdiv (pv 2) pe_int) pe_int)))))))) pss_nil)
      (pss_one (ps_ret (pe_comp (fv := ["_law_word", "_law_letters", "_law_at", "_law_first"]) (fs := [2, 1, 4, 5]) rfl (.of (by rfl)) (pi_range1 rfl T.range (pa_cons pe_int pa_nil)) (fun _ _ _ _ => pts_nil) (fun C s0 H0 fp => (pe_op op_add_str (pe_op op_add_str (pe_slice sl_str (pv 1) po_none (po_some (pv 3))) (pe_ix ix_str (pv 2) (pe_op op_mod (pe_op op_add (pe_op op_fdiv (pv 4) pe_int) (pv 0)) pe_int) (fun _ _ => rfl))) (pe_slice sl_str (pv 1) (po_some (pe_op op_add (pv 3) pe_int)) po_none)))))))))))), ?_⟩
    have gen : ∀ (vs : List V), (∀ (j : Nat) v, vs[j]? = some v → ∃ y : Str, v = .str y) → ∃ ys : List Str, vs = ys.map V.str := by
      intro vs
      induction vs with
      | nil => exact fun _ => ⟨[], rfl⟩
      | cons v r ih =>
        intro h
        obtain ⟨y, rfl⟩ := h 0 v rfl
        obtain ⟨ys, rfl⟩ := ih fun j v hj => h (j + 1) v (by simpa using hj)
        exact ⟨y :: ys, rfl⟩
    refine ⟨4, rfl, by decide, by decide, for_range (lo := 0) (n := 4) (fun i σ H3 => ∃ (W : Str) (ok : Option V), σ = [some (.int c), some (.str abc), some (.str W), ok, none, none] ∧ H3 = H ∧ (sgn W).length = 2 * i ∧ (sgn W).all isL = true) ⟨"", none, rfl, rfl, rfl, rfl⟩ ?_ ?_⟩
    · rintro i σ H3 hi ⟨W, ok, rfl, rfl, wl, wL⟩
      have wz : W.length = 2 * i := by rw [← sgn_length]; exact wl
      refine ⟨_, rfl, _, rfl, _, rfl, _, rfl, c, i, by simp, by omega, fun r1 _ _ => ?_⟩
      obtain ⟨ch, hat, hl⟩ := at_let (r1 % 26) (mod26 _).1 (mod26 _).2
      have l1 : (W ++ (⟨#[ch]⟩ : Str)).length ≤ 8 := by rw [Str.length_append]; show _ + 1 ≤ 8; omega
      refine ⟨_, _, rfl, rfl, (by show (0 : Int) < _; decide), abc, _, ch, rfl, rfl, by rw [abc_len]; decide, hat, _, _, rfl, rfl, Nat.le_of_lt (small1000 (by show W.length + 1 ≤ 1000; omega)), _, rfl, _, rfl, _, rfl, c, i, by simp, by omega, fun r2 _ _ => ?_⟩
      obtain ⟨ch2, hat2, hl2⟩ := at_let (r2 / 26 % 26) (mod26 _).1 (mod26 _).2
      refine ⟨_, _, rfl, rfl, ⟨by decide, by decide⟩, _, _, rfl, rfl, (by show (0 : Int) < _; decide), abc, _, ch2, rfl, rfl, by rw [abc_len]; decide, hat2, _, _, rfl, rfl, Nat.le_of_lt (small1000 (by show (W ++ (⟨#[ch]⟩ : Str)).length + 1 ≤ 1000; omega)), _, _, rfl, rfl, ?_, ?_⟩
      · rw [sgn_append, sgn_append, List.length_append, List.length_append, wl]
        show 2 * i + 1 + 1 = 2 * (i + 1)
        omega
      · rw [sgn_append, sgn_append]
        show (sgn W ++ [ch] ++ [ch2]).all isL = true
        simp [hl, hl2, wL]
    · rintro σ H3 ⟨W, ok, rfl, rfl, w8, wL⟩
      have w8 : (sgn W).length = 8 := w8
      have wz : W.length = 8 := by rw [← sgn_length]; exact w8
      refine ⟨_, rfl, c, 4, rfl, by decide, fun r1 _ _ => ⟨_, _, rfl, rfl, (by show (0 : Int) < _; decide), ?_⟩⟩
      have b1 := mod_b r1 (n := 8) (by decide)
      obtain ⟨at1, ha1⟩ : ∃ z : Nat, r1 % 8 = (z : Int) := ⟨(r1 % 8).toNat, by omega⟩
      have b2 : at1 < 8 := by omega
      refine ⟨_, rfl, c, 5, rfl, by decide, fun r2 r20 _ => ?_⟩
      refine ⟨_, rfl, _, _, rfl, rfl, (by show (0 : Int) < _; decide), rfl, _, rfl, ?_⟩
      refine ite2 (fun _ => ?_) (fun _ => ?_)
      · have m5 := mod_b (r2 / 3) (n := 5) (by decide)
        obtain ⟨sh, hsh⟩ : ∃ z : Int, z = r2 / 3 % 5 := ⟨_, rfl⟩
        rw [← hsh] at m5
        refine ⟨4, rfl, by decide, by decide, comp_rel (n := 4) (fun i => .int (0 + (i : Int))) (fun i v => ∃ y : Str, v = .str y ∧ nameB y = true ∧ ((sgn y).length : Int) = (i : Int) + 1 + sh) (by decide) (fun i H2 hi s2 => hi) (fun i H2 v H' hi s2 y => ⟨y.2, y.1⟩) (fun H2 s2 => Nat.le_refl _) (fun i H3 R hi s3 r => ?_) (fun D3 H3 vs hD3 s3 d3 lv ov => ?_)⟩
        · refine ⟨_, rfl, _, rfl, _, _, rfl, rfl, _, rfl, _, _, rfl, rfl, ⟨by decide, by decide⟩, _, _, rfl, rfl, (by show (0 : Int) < _; decide), _, _, rfl, rfl, _, rfl, W, rfl, by rw [wz]; decide, r _ H3 (Same.refl H3) ⟨_, rfl, ?_, ?_⟩⟩
          · rw [← hsh]
            obtain ⟨n, hn⟩ : ∃ n : Nat, 0 + (i : Int) + 1 + sh = (n : Int) := ⟨(0 + (i : Int) + 1 + sh).toNat, by omega⟩
            show nameS (sgn (Txt.slice W none (some (0 + (i : Int) + 1 + sh)))) = true
            rw [hn, sgn_slice, cut_to]
            refine nameS_mk ?_ ?_ (all_take wL n)
            · rw [List.length_take, w8]; omega
            · rw [List.length_take, w8]; omega
          · rw [← hsh]
            obtain ⟨n, hn⟩ : ∃ n : Nat, 0 + (i : Int) + 1 + sh = (n : Int) := ⟨(0 + (i : Int) + 1 + sh).toNat, by omega⟩
            rw [hn, sgn_slice, cut_to, List.length_take, w8]
            omega
        · obtain ⟨ns, rfl⟩ := gen vs fun j v hj => let ⟨y, e, _⟩ := ov j v hj; ⟨y, e⟩
          have nat : ∀ (j : Nat) y, ns[j]? = some y → nameB y = true ∧ ((sgn y).length : Int) = (j : Int) + 1 + sh := fun j y hj => by
            obtain ⟨y', e, h1, h2⟩ := ov j (.str y) (by rw [List.getElem?_map, hj]; rfl)
            cases e
            exact ⟨h1, h2⟩
          refine q D3 ns H3 s3 hD3 ⟨d3, by rw [← lv, List.length_map], nodup_by (fun j y => ((sgn y).length : Int) = (j : Int) + 1 + sh) (fun j y hj => (nat j y hj).2) fun i j y hij _ p1 p2 => by omega, fun y hy => ?_⟩
          obtain ⟨j, hj, rfl⟩ := List.mem_iff_getElem.mp hy
          exact (nat j _ (List.getElem?_eq_getElem hj)).1
      · obtain ⟨atI1, eatI⟩ : ∃ z : Int, z = r1 % 8 := ⟨_, rfl⟩
        obtain ⟨sh, hsh⟩ : ∃ z : Int, z = r2 / 3 := ⟨_, rfl⟩
        refine ⟨4, rfl, by decide, by decide, comp_rel (n := 4) (fun i => .int (0 + (i : Int))) (fun i v => ∃ y : Str, v = .str y ∧ nameB y = true ∧ (sgn y)[at1]? = LET[((sh + (i : Int)) % 26).toNat]?) (by decide) (fun i H2 hi s2 => hi) (fun i H2 v H' hi s2 y => ⟨y.2, y.1⟩) (fun H2 s2 => Nat.le_refl _) (fun i H3 R hi s3 r => ?_) (fun D3 H3 vs hD3 s3 d3 lv ov => ?_)⟩
        · obtain ⟨ch, hat, hl⟩ := at_let ((r2 / 3 + (0 + (i : Int))) % 26) (mod26 _).1 (mod26 _).2
          have l1 : (Txt.slice W none (some (r1 % 8))).length ≤ 8 := by rw [← wz]; exact Txt.slice_le W _ _
          have l2 : (Txt.slice W (some (r1 % 8 + 1)) none).length ≤ 8 := by rw [← wz]; exact Txt.slice_le W _ _
          have l3 : (Txt.slice W none (some (r1 % 8)) ++ (⟨#[ch]⟩ : Str)).length ≤ 9 := by rw [Str.length_append]; show _ + 1 ≤ 9; omega
          refine ⟨_, rfl, _, rfl, _, rfl, W, rfl, by rw [wz]; decide, _, rfl, _, rfl, _, _, rfl, rfl, ⟨by decide, by decide⟩, _, rfl, _, _, rfl, rfl, _, _, rfl, rfl, (by show (0 : Int) < _; decide), abc, _, ch, rfl, rfl, by rw [abc_len]; decide, hat, _, _, rfl, rfl, ?_, _, rfl, _, rfl, _, _, rfl, rfl, _, rfl, W, rfl, by rw [wz]; decide, _, _, rfl, rfl, ?_, r _ H3 (Same.refl H3) ⟨_, rfl, ?_, ?_⟩⟩
          · exact Nat.le_of_lt (small1000 (by show (Txt.slice W none (some (r1 % 8))).length + 1 ≤ 1000; omega))
          · exact Nat.le_of_lt (small1000 (by omega))
          · show nameS (sgn (Txt.slice W none (some (r1 % 8)) ++ ⟨#[ch]⟩ ++ Txt.slice W (some (r1 % 8 + 1)) none)) = true
            have e1 : (at1 : Int) + 1 = ((at1 + 1 : Nat) : Int) := by omega
            rw [sgn_append, sgn_append, sgn_slice, sgn_slice, ha1, e1, cut_to, cut_from]
            have ec : sgn ⟨#[ch]⟩ = [ch] := rfl
            rw [ec]
            refine nameS_mk ?_ ?_ ?_
            · simp only [List.length_append, List.length_take, List.length_drop, w8, List.length_singleton]; omega
            · simp only [List.length_append, List.length_take, List.length_drop, w8, List.length_singleton]; omega
            · rw [List.all_append, List.all_append, all_take wL, all_drop wL]
              simp [hl]
          · rw [sgn_append, sgn_append, sgn_slice, ha1, cut_to]
            have ec : sgn ⟨#[ch]⟩ = [ch] := rfl
            rw [ec]
            have lt : ((sgn W).take at1).length = at1 := by rw [List.length_take, w8]; omega
            rw [List.getElem?_append_left (by rw [List.length_append, lt, List.length_singleton]; omega), List.getElem?_append_right (by rw [lt]; exact Nat.le_refl _), lt, Nat.sub_self]
            rw [← hsh] at hat
            have hb := mod26 (sh + (0 + (i : Int)))
            obtain ⟨m, hm⟩ : ∃ m : Nat, (sh + (0 + (i : Int))) % 26 = (m : Int) := ⟨((sh + (0 + (i : Int))) % 26).toNat, by omega⟩
            have hz : (sh + (i : Int)) % 26 = (m : Int) := by rw [← hm, Int.zero_add]
            rw [hz, Int.toNat_natCast]
            rw [hm] at hat
            obtain ⟨j', g1, g2, g3, _⟩ := atI_get hat
            have : j' = m := by
              have hm26 : m < (sgn abc).length := by show m < LET.length; rw [LET_len]; omega
              have q1 : ixN (sgn abc).length (m : Int) = some m := by
                unfold ixN
                rw [if_pos (by omega), if_pos (by omega), Int.toNat_natCast]
              have := (ixN_seq q1).1
              rw [this] at g1
              exact (Option.some.inj g1).symm
            rw [this] at g2
            exact g2.symm
        · obtain ⟨ns, rfl⟩ := gen vs fun j v hj => let ⟨y, e, _⟩ := ov j v hj; ⟨y, e⟩
          have nat : ∀ (j : Nat) y, ns[j]? = some y → nameB y = true ∧ (sgn y)[at1]? = LET[((sh + (j : Int)) % 26).toNat]? := fun j y hj => by
            obtain ⟨y', e, h1, h2⟩ := ov j (.str y) (by rw [List.getElem?_map, hj]; rfl)
            cases e
            exact ⟨h1, h2⟩
          have l4 : ns.length = 4 := by rw [← lv, List.length_map]
          refine q D3 ns H3 s3 hD3 ⟨d3, l4, nodup_by (fun j y => (sgn y)[at1]? = LET[((sh + (j : Int)) % 26).toNat]?) (fun j y hj => (nat j y hj).2) fun i j y hij hj p1 p2 => ?_, fun y hy => ?_⟩
          · rw [p1] at p2
            have nl : LET.Nodup := by decide +kernel
            have hb := (mod26 (sh + (i : Int)))
            have hb2 := (mod26 (sh + (j : Int)))
            have h1 : ((sh + (i : Int)) % 26).toNat < LET.length := by rw [LET_len]; omega
            have := (List.getElem?_inj h1 nl).mp p2
            omega
          · obtain ⟨j, hj, rfl⟩ := List.mem_iff_getElem.mp hy
            exact (nat j _ (List.getElem?_eq_getElem hj)).1
end
end K41

set_option Elab.async false
set_option linter.all false
set_option maxRecDepth 100000
set_option maxHeartbeats 40000000
namespace K41
open PySem L2
section
variable {P : Program} {w : World} {K : PySem.W.Frag} {mg : Str → Option Value} {base : Heap}
theorem scDoc : FnScope ["_law_cell_here", "_law_k", "_law_names_here", "_law_number", "_law_small", "_law_some"] ["_law_cell_here", "_law_k", "_law_names_here"] (defScope sDoc) := ⟨rfl, rfl, rfl, by decide +kernel, rfl, by decide +kernel, by decide +kernel⟩
theorem ok_Doc {f : Addr} {fd : FuncData} (F : Fun K "_law_doc" "_law_doc" sDoc f fd) (T : Txt mg) (DMix : Df P w K mg base "_law_mix" ["_law_cell_here", "_law_k"] 1 spMix) : FnOk P w K mg base CX0 2 f fd ["_law_cell_here", "_law_k", "_law_names_here"] spDocV := by
  obtain ⟨fMix, dMix, kMix, bMix, mMix, GMix⟩ := DMix.ex
  refine F.ok scDoc (fun vs H Q E h => ?_) (fun cdv A outer s H vs Q E hr h => ?_)
  · obtain ⟨c, k, n, ys, rfl, hk, hn, q⟩ := h
    rfl
  · obtain ⟨c, k, n, ys, rfl, hk, hn, q⟩ := h
    have nd := scDoc.nd
    have hu := hu_of hr
    have hrMix : Room 1 _ := hr.mono (by first | decide | omega)
    refine ⟨_, (pss_cons (ps_set (i := 3) nd rfl (Or.inl rfl) (pe_call GMix hrMix rfl mMix kMix bMix .nil pass0 (pa_cons (pv 0) (pa_cons (pv 1) pa_nil))))
      (pss_cons (ps_set (i := 4) nd rfl (Or.inl rfl) (pe_op op_mod (pe_op op_fdiv (pv 3) pe_int) pe_int))
      (pss_cons (ps_set (i := 5) nd rfl (Or.inl rfl) (pe_lst (pa_cons (pe_op op_sub (pv 4) pe_int) (pa_cons (pe_slice sl_str pe_str (po_some (pv 4)) po_none) (pa_cons (pe_lst pa_nil) (pa_cons pe_dnewK (pa_cons (pe_op op_add (pe_op op_pow pe_int pe_int) (pv 3)) (pa_cons (pe_lst (pa_cons (pv 4) pa_nil)) (pa_cons (pe_lst (pa_cons (pe_lst pa_nil) (pa_cons pe_str pa_nil))) (pa_cons (pe_disp (pps_cons (pe_ix (r := rIxL K) ix_list (pv 2) (pe_op op_mod (pv 4) pe_int) (fun _ _ => rfl)) pe_int pps_nil) rfl rfl (by simp) (by simp)) pa_nil))))))))))
      (pss_cons (ps_set (i := 5) nd rfl (Or.inl rfl) (pe_op op_cat (pv 5) (pe_lst (pa_cons (pe_disp (pps_cons (pe_ix (r := rIxL K) ix_list (pv 2) pe_int (fun _ _ => rfl)) (pe_lst pa_nil) (pps_cons (pe_ix (r := rIxL K) ix_list (pv 2) pe_int (fun _ _ => rfl)) pe_str pps_nil)) rfl rfl (by simp) (by simp)) (pa_cons (pv 4) (pa_cons pe_str (pa_cons (pe_lst (pa_cons (pv 4) (pa_cons pe_dnewK pa_nil))) pa_nil)))))))
      (pss_one (ps_ret (pe_ix (r := rIxL K) ix_list (pv 5) (pe_op op_mod (pv 3) pe_int) (fun _ _ => rfl)))))))), ?_⟩
    have get : ∀ j : Nat, j < 4 → ∃ y, atI (ys.map V.str) (j : Int) = some (.str y) ∧ ys[j]? = some y ∧ nameB y = true := fun j hj => ⟨ys[j]'(by rw [hn.len]; exact hj), atI_nat (by rw [List.getElem?_map, List.getElem?_eq_getElem (by rw [hn.len]; exact hj)]; rfl), List.getElem?_eq_getElem (by rw [hn.len]; exact hj), hn.nb _ (List.getElem_mem _)⟩
    obtain ⟨y0, a0, g0, b0⟩ := get 0 (by decide)
    obtain ⟨y1, a1, g1, b1⟩ := get 1 (by decide)
    have n12 : y1 ≠ y0 := fun z => by
      rw [z, ← g0] at g1
      have := (List.getElem?_inj (by rw [hn.len]; decide) hn.nd).mp g1
      omega
    refine ⟨_, rfl, _, rfl, c, k, rfl, hk, fun r _ _ => ?_⟩
    refine ⟨_, rfl, _, _, rfl, rfl, ⟨by decide, by decide⟩, _, _, rfl, rfl, (by show (0 : Int) < _; decide), ?_⟩
    have m5 := mod_b (r / 12) (n := 5) (by decide)
    obtain ⟨e, he⟩ : ∃ e : Nat, r / 12 % 5 = (e : Int) := ⟨(r / 12 % 5).toNat, by omega⟩
    have e5 : e < 5 := by omega
    rw [he]
    obtain ⟨x, hx⟩ : ∃ x, x = Txt.slice "abcde" (some (e : Int)) none := ⟨_, rfl⟩
    have lx : x.length ≤ 100 := by
      have := Txt.slice_le "abcde" (some (e : Int)) none
      rw [← hx] at this
      exact Nat.le_trans this (by decide)
    obtain ⟨yz, az, gz, bz⟩ : ∃ y, atI (ys.map V.str) ((e : Int) % 4) = some (.str y) ∧ True ∧ nameB y = true := by
      obtain ⟨y, h1, _, h2⟩ := get (e % 4) (Nat.mod_lt _ (by decide))
      exact ⟨y, by rw [← h1]; rfl, trivial, h2⟩
    refine ⟨_, rfl, _, _, rfl, rfl, _, rfl, _, rfl, "abcde", rfl, by decide, ?_⟩
    rw [← hx]
    refine ⟨Nat.zero_le _, fun p1 hp1 => ?_⟩
    have t1 := Same.new (o := .lst []) hp1
    have f1 : upd H p1 (.lst []) p1 = some (.lst []) := upd_same
    generalize upd H p1 (.lst []) = H2 at t1 f1 ⊢
    refine fun p2 hp2 => ?_
    have t2 := Same.new (o := .dK []) hp2
    have f2 : upd H2 p2 (.dK []) p2 = some (.dK []) := upd_same
    generalize upd H2 p2 (.dK []) = H3 at t2 f2 ⊢
    have t12 := t1.trans t2
    refine ⟨_, _, rfl, rfl, ⟨by decide, by decide, by decide⟩, _, rfl, _, _, rfl, rfl, ?_⟩
    obtain ⟨gr, hgr⟩ : ∃ gr : Int, gr = (10 : Int) ^ (30 : Int).toNat + r := ⟨_, rfl⟩
    rw [← hgr]
    refine ⟨_, rfl, one_line, fun p3 hp3 => ?_⟩
    have t3 := Same.new (o := .lst [.int (e : Int)]) hp3
    have f3 : upd H3 p3 (.lst [.int (e : Int)]) p3 = some (.lst [.int (e : Int)]) := upd_same
    generalize upd H3 p3 (.lst [.int (e : Int)]) = H4 at t3 f3 ⊢
    have t13 := t12.trans t3
    refine ⟨Nat.zero_le _, fun p4 hp4 => ?_⟩
    have t4 := Same.new (o := .lst []) hp4
    have f4 : upd H4 p4 (.lst []) p4 = some (.lst []) := upd_same
    generalize upd H4 p4 (.lst []) = H5 at t4 f4 ⊢
    have t14 := t13.trans t4
    refine ⟨two_line, fun p5 hp5 => ?_⟩
    have t5 := Same.new (o := .lst [.ref p4, .str "b"]) hp5
    have f5 : upd H5 p5 (.lst [.ref p4, .str "b"]) p5 = some (.lst [.ref p4, .str "b"]) := upd_same
    generalize upd H5 p5 (.lst [.ref p4, .str "b"]) = H6 at t5 f5 ⊢
    have t15 := t14.trans t5
    refine fun p6 hp6 => ?_
    have t6 := Same.new (o := .dK []) hp6
    refine ⟨_, rfl, _, rfl, _, _, rfl, rfl, (by show (0 : Int) < _; decide), n, _, _, _, rfl, rfl, SqL.of ((t15.trans t6) _ _ hn.at_), az, upd_same, [(Sum.inr yz, .int 1)], rfl, by simp, ?_⟩
    have m6 : mergeK [] [((Sum.inr yz : Key), V.int 1)] = [(Sum.inr yz, .int 1)] := rfl
    rw [m6]
    have t6' : Same H6 (upd (upd H6 p6 (.dK [])) p6 (.dK [(Sum.inr yz, .int 1)])) := t6.put hp6
    have f6 : upd (upd H6 p6 (.dK [])) p6 (.dK [(Sum.inr yz, .int 1)]) p6 = some (.dK [(Sum.inr yz, .int 1)]) := upd_same
    generalize upd (upd H6 p6 (.dK [])) p6 (.dK [(Sum.inr yz, .int 1)]) = H7 at t6' f6 ⊢
    have t16 := t15.trans t6'
    refine ⟨le_line (show 8 ≤ 1000 by decide), fun L hL => ?_⟩
    have tL := Same.new (o := .lst [.int ((e : Int) - 2), .str x, .ref p1, .ref p2, .int gr, .ref p3, .ref p5, .ref p6]) hL
    have fL : upd H7 L (.lst [.int ((e : Int) - 2), .str x, .ref p1, .ref p2, .int gr, .ref p3, .ref p5, .ref p6]) L = some (.lst [.int ((e : Int) - 2), .str x, .ref p1, .ref p2, .int gr, .ref p3, .ref p5, .ref p6]) := upd_same
    generalize upd H7 L (.lst [.int ((e : Int) - 2), .str x, .ref p1, .ref p2, .int gr, .ref p3, .ref p5, .ref p6]) = H8 at tL fL ⊢
    have t17 := t16.trans tL
    refine ⟨_, rfl, fun p9 hp9 => ?_⟩
    have t9 := Same.new (o := .dK []) hp9
    have f9 : upd H8 p9 (.dK []) p9 = some (.dK []) := upd_same
    generalize upd H8 p9 (.dK []) = HA at t9 f9 ⊢
    refine ⟨_, rfl, n, _, _, _, rfl, rfl, SqL.of ((t17.trans t9) _ _ hn.at_), a1, Nat.zero_le _, fun pA hpA => ?_⟩
    have tA := Same.new (o := .lst []) hpA
    have fA : upd HA pA (.lst []) pA = some (.lst []) := upd_same
    refine ⟨_, rfl, n, _, _, _, rfl, rfl, SqL.of (((t17.trans t9).trans tA) _ _ hn.at_), a0, tA _ _ f9, [(Sum.inr y1, .ref pA), (Sum.inr y0, .str "a")], rfl, by simp, ?_⟩
    have m9 : mergeK [] [((Sum.inr y1 : Key), V.ref pA), (Sum.inr y0, .str "a")] = [(Sum.inr y1, .ref pA), (Sum.inr y0, .str "a")] := mergeK_nodup _ _ (by
      have : (Sum.inr y1 : Key) ≠ Sum.inr y0 := fun z => n12 (Sum.inr.inj z)
      simpa using this)
    rw [m9]
    have n9A : pA ≠ p9 := Ne.symm (ne_of_none f9 hpA)
    have t9A : Same H8 (upd (upd HA pA (.lst [])) p9 (.dK [(Sum.inr y1, .ref pA), (Sum.inr y0, .str "a")])) := (t9.trans tA).put hp9
    have f9' : upd (upd HA pA (.lst [])) p9 (.dK [(Sum.inr y1, .ref pA), (Sum.inr y0, .str "a")]) p9 = some (.dK [(Sum.inr y1, .ref pA), (Sum.inr y0, .str "a")]) := upd_same
    have fA' : upd (upd HA pA (.lst [])) p9 (.dK [(Sum.inr y1, .ref pA), (Sum.inr y0, .str "a")]) pA = some (.lst []) := by rw [upd_ne n9A]; exact fA
    have nA0 : H pA = none := t17.free (t9.free hpA)
    generalize upd (upd HA pA (.lst [])) p9 (.dK [(Sum.inr y1, .ref pA), (Sum.inr y0, .str "a")]) = HB at t9A f9' fA' ⊢
    have t19 := t17.trans t9A
    refine ⟨_, rfl, _, rfl, fun pB hpB => ?_⟩
    have tB := Same.new (o := .dK []) hpB
    have fB : upd HB pB (.dK []) pB = some (.dK []) := upd_same
    generalize upd HB pB (.dK []) = HC at tB fB ⊢
    have t1B := t19.trans tB
    refine ⟨two_line, fun pC hpC => ?_⟩
    have tC := Same.new (o := .lst [.int (e : Int), .ref pB]) hpC
    have fC : upd HC pC (.lst [.int (e : Int), .ref pB]) pC = some (.lst [.int (e : Int), .ref pB]) := upd_same
    generalize upd HC pC (.lst [.int (e : Int), .ref pB]) = HD at tC fC ⊢
    have t1C := t1B.trans tC
    refine ⟨le_line (show 4 ≤ 1000 by decide), fun M hM => ?_⟩
    have tM := Same.new (o := .lst [.ref p9, .int (e : Int), .str "", .ref pC]) hM
    have fM : upd HD M (.lst [.ref p9, .int (e : Int), .str "", .ref pC]) M = some (.lst [.ref p9, .int (e : Int), .str "", .ref pC]) := upd_same
    generalize upd HD M (.lst [.ref p9, .int (e : Int), .str "", .ref pC]) = HE at tM fM ⊢
    have t1M := t1C.trans tM
    refine ⟨L, M, _, _, rfl, rfl, (((t9A.trans tB).trans tC).trans tM) _ _ fL, fM, le_line (show 12 ≤ 1000 by decide), fun N hN => ?_⟩
    have tN := Same.new (o := .lst ([.int ((e : Int) - 2), .str x, .ref p1, .ref p2, .int gr, .ref p3, .ref p5, .ref p6] ++ [.ref p9, .int (e : Int), .str "", .ref pC])) hN
    have fN : upd HE N (.lst ([.int ((e : Int) - 2), .str x, .ref p1, .ref p2, .int gr, .ref p3, .ref p5, .ref p6] ++ [.ref p9, .int (e : Int), .str "", .ref pC])) N = some (.lst ([.int ((e : Int) - 2), .str x, .ref p1, .ref p2, .int gr, .ref p3, .ref p5, .ref p6] ++ [.ref p9, .int (e : Int), .str "", .ref pC])) := upd_same
    generalize upd HE N (.lst ([.int ((e : Int) - 2), .str x, .ref p1, .ref p2, .int gr, .ref p3, .ref p5, .ref p6] ++ [.ref p9, .int (e : Int), .str "", .ref pC])) = HF at tN fN ⊢
    have mb := mod_b r (n := 12) (by decide)
    obtain ⟨v, hv, mv⟩ := pick_mem (xs := ([V.int ((e : Int) - 2), .str x, .ref p1, .ref p2, .int gr, .ref p3, .ref p5, .ref p6] ++ [V.ref p9, .int (e : Int), .str "", .ref pC] : List V)) mb.1 (by exact mb.2)
    refine ⟨_, rfl, _, rfl, _, _, rfl, rfl, (by show (0 : Int) < _; decide), N, _, _, _, rfl, rfl, SqL.of fN, hv, ?_⟩
    have z := t1M.trans tN
    have sC := tM.trans tN
    have sB := tC.trans sC
    have s9 := tB.trans sB
    have sL := t9A.trans s9
    have s6 := tL.trans sL
    have s5 := t6'.trans s6
    have s4 := t5.trans s5
    have s3 := t4.trans s4
    have s2 := t3.trans s3
    have s1 := t2.trans s2
    have new : ∀ {p : Addr} {o : HO}, H p = none → HF p = some o → nw H HF p = some o := fun h1 h2 => by rw [nw_new h1]; exact h2
    have v1 := new hp1 (s1 _ _ f1)
    have v2 := new (t1.free hp2) (s2 _ _ f2)
    have v3 := new (t12.free hp3) (s3 _ _ f3)
    have v4 := new (t13.free hp4) (s4 _ _ f4)
    have v5 := new (t14.free hp5) (s5 _ _ f5)
    have v6 := new (t15.free hp6) (s6 _ _ f6)
    have v9 := new (t17.free hp9) (s9 _ _ f9')
    have vA := new nA0 (s9 _ _ fA')
    have vB := new (t19.free hpB) (sB _ _ fB)
    have vC := new (t1B.free hpC) (sC _ _ fC)
    have k : ∀ t : Pt, Small H HF v t → Q v HF := fun t h => q v t HF z h
    simp only [List.cons_append, List.nil_append, List.mem_cons, List.not_mem_nil, or_false] at mv
    have one : ∀ {P : Pt → Prop} {x : Pt}, P x → ∀ y ∈ [x], P y := fun h y hy => by rw [List.mem_singleton.mp hy]; exact h
    have two : ∀ {P : Pt → Prop} {x y : Pt}, P x → P y → ∀ z ∈ [x, y], P z := fun h1 h2 z hz => by
      rcases List.mem_cons.mp hz with rfl | hz
      · exact h1
      · rw [List.mem_singleton.mp hz]; exact h2
    rcases mv with rfl | rfl | rfl | rfl | rfl | rfl | rfl | rfl | rfl | rfl | rfl | rfl
    · exact k _ ⟨.int _, .one (.int _), trivial, by simp [Pt.size], by simp [Pt.deep]⟩
    · exact k _ ⟨.str _, .one (.str _), lx, by simp [Pt.size], by simp [Pt.deep]⟩
    · exact k _ ⟨.lst (.inl v1) .nil, .one .nil, trivial, by simp [Pt.size, Pt.sizeL], by simp [Pt.deep, Pt.deepL]⟩
    · exact k _ ⟨.dct (ks := []) (.inl v2) rfl .nil, .one .emp, by simp [Pt.doc, Pt.docL], by simp [Pt.size, Pt.sizeL], by simp [Pt.deep, Pt.deepL]⟩
    · exact k _ ⟨.int _, .one (.int _), trivial, by simp [Pt.size], by simp [Pt.deep]⟩
    · exact k _ ⟨.lst (.inl v3) (.cons (.int _) .nil), .row (one (.int _)), by simp [Pt.doc, Pt.docL], by simp [Pt.size, Pt.sizeL], by simp [Pt.deep, Pt.deepL]⟩
    · exact k _ ⟨.lst (.inl v5) (.cons (.lst (.inl v4) .nil) (.cons (.str _) .nil)), .row (two .nil (.str _)), by simp only [Pt.doc, Pt.docL, and_true, true_and]; decide, by simp [Pt.size, Pt.sizeL], by simp [Pt.deep, Pt.deepL]⟩
    · exact k _ ⟨.dct (ks := [yz]) (.inl v6) rfl (.cons (.int _) .nil), .tab (one (.int _)), by simp [Pt.doc, Pt.docL, bz], by simp [Pt.size, Pt.sizeL], by simp [Pt.deep, Pt.deepL]⟩
    · exact k _ ⟨.dct (ks := [y1, y0]) (.inl v9) rfl (.cons (.lst (.inl vA) .nil) (.cons (.str _) .nil)), .tab (two .nil (.str _)), by
        simp only [Pt.doc, Pt.docL, and_true, true_and]
        refine ⟨rfl, by simpa using n12, ?_, by simp, by decide⟩
        intro k hk
        simp only [List.mem_cons, List.not_mem_nil, or_false] at hk
        rcases hk with rfl | rfl
        · exact b1
        · exact b0, by simp [Pt.size, Pt.sizeL], by simp [Pt.deep, Pt.deepL]⟩
    · exact k _ ⟨.int _, .one (.int _), trivial, by simp [Pt.size], by simp [Pt.deep]⟩
    · exact k _ ⟨.str _, .one (.str _), by simp only [Pt.doc]; decide, by simp [Pt.size], by simp [Pt.deep]⟩
    · exact k _ ⟨.lst (.inl vC) (.cons (.int _) (.cons (.dct (ks := []) (.inl vB) rfl .nil) .nil)), .row (two (.int _) .emp), by simp [Pt.doc, Pt.docL], by simp [Pt.size, Pt.sizeL], by simp [Pt.deep, Pt.deepL]⟩
end
end K41

set_option Elab.async false
set_option linter.all false
set_option maxRecDepth 100000
set_option maxHeartbeats 40000000
namespace K41
open PySem L2
section
variable {P : Program} {w : World} {K : PySem.W.Frag} {mg : Str → Option Value} {base : Heap}
theorem scCopy : FnScope ["_law_thing"] ["_law_thing"] (defScope sCopy) := ⟨rfl, rfl, rfl, by decide +kernel, rfl, by decide +kernel, by decide +kernel⟩
theorem ok_Copy {n : Nat} {f : Addr} {fd : FuncData} (F : Fun K "_law_copy" "_law_copy" sCopy f fd) (T : Txt mg) (DCopy : Df P w K mg base "_law_copy" ["_law_thing"] n (spCopyV n)) : FnOk P w K mg base CX0 (n + 1) f fd ["_law_thing"] (spCopyV (n + 1)) := by
  obtain ⟨fCopy, dCopy, kCopy, bCopy, mCopy, GCopy⟩ := DCopy.ex
  refine F.ok scCopy (fun vs H Q E h => ?_) (fun cdv A outer s H vs Q E hr h => ?_)
  · obtain ⟨v, t, rfl, hv, nc, hdp, q⟩ := h
    rfl
  · obtain ⟨v, t, rfl, hv, nc, hdp, q⟩ := h
    have nd := scCopy.nd
    have hu := hu_of hr
    have hrCopy : Room n _ := hr.mono (by first | decide | omega)
    refine ⟨_, (pss_cons (ps_if (pt_val (pe_callB call_isiN rfl T.isinstance b_isinstance (pa_cons (pv 0) (pa_cons (pe_bltn (v := .ty "list") rfl T.list b_list rfl) pa_nil)))) (pss_one (ps_ret (pe_comp (fv := []) (fs := []) rfl (.of (by rfl)) (pi_list (pv 0)) (fun _ _ _ _ => pts_nil) (fun C s0 H0 fp => (pe_call GCopy hrCopy rfl mCopy kCopy bCopy .nil pass0 (pa_cons (pv 0) pa_nil)))))) pss_nil)
      (pss_cons (ps_if (pt_val (pe_callB call_isiN rfl T.isinstance b_isinstance (pa_cons (pv 0) (pa_cons (pe_bltn (v := .ty "tuple") rfl T.tuple b_tuple rfl) pa_nil)))) (pss_one (ps_ret (pe_callTy call_tuple_of rfl T.tuple b_tuple (pa_cons (pe_comp (fv := []) (fs := []) rfl (.of (by rfl)) (pi_tup (pv 0)) (fun _ _ _ _ => pts_nil) (fun C s0 H0 fp => (pe_call GCopy hrCopy rfl mCopy kCopy bCopy .nil pass0 (pa_cons (pv 0) pa_nil)))) pa_nil)))) pss_nil)
      (pss_cons (ps_if (pt_val (pe_callB call_isiN rfl T.isinstance b_isinstance (pa_cons (pv 0) (pa_cons (pe_bltn (v := .ty "dict") rfl T.dict b_dict rfl) pa_nil)))) (pss_one (ps_ret (pe_callTy (call_dict_pairs rfl) rfl T.dict b_dict (pa_cons (pe_walk (pe_comp (fv := ["_law_thing"]) (fs := [0]) rfl (.of (by rfl)) (pi_dict (pv 0)) (fun _ _ _ _ => pts_nil) (fun C s0 H0 fp => (pe_tup (pa_cons (pv 0) (pa_cons (pe_call GCopy hrCopy rfl mCopy kCopy bCopy .nil pass0 (pa_cons (pe_dget hu (pv 1) (pv 0) (fun _ _ => rfl)) pa_nil)) pa_nil)))))) pa_nil)))) pss_nil)
      (pss_one (ps_ret (pv 0)))))), ?_⟩
    cases hv with
    | int i => exact ⟨_, rfl, _, "list", "int", rfl, rfl, .int i, _, rfl, iteF ⟨_, rfl, _, "tuple", "int", rfl, rfl, .int i, _, rfl, iteF ⟨_, rfl, _, "dict", "int", rfl, rfl, .int i, _, rfl, iteF ⟨_, rfl, q _ H (Same.refl H) (.int i)⟩⟩⟩⟩
    | str i => exact ⟨_, rfl, _, "list", "str", rfl, rfl, .str i, _, rfl, iteF ⟨_, rfl, _, "tuple", "str", rfl, rfl, .str i, _, rfl, iteF ⟨_, rfl, _, "dict", "str", rfl, rfl, .str i, _, rfl, iteF ⟨_, rfl, q _ H (Same.refl H) (.str i)⟩⟩⟩⟩
    | bl i => exact ⟨_, rfl, _, "list", "bool", rfl, rfl, .bl i, _, rfl, iteF ⟨_, rfl, _, "tuple", "bool", rfl, rfl, .bl i, _, rfl, iteF ⟨_, rfl, _, "dict", "bool", rfl, rfl, .bl i, _, rfl, iteF ⟨_, rfl, q _ H (Same.refl H) (.bl i)⟩⟩⟩⟩
    | @lst a vs ts h r =>
      refine ⟨_, rfl, _, "list", "list", rfl, rfl, .lst h, _, rfl, iteT ?_⟩
      simp only [Pt.nice] at nc
      simp only [Pt.deep] at hdp
      have lv := r.length
      refine ⟨_, rfl, a, rfl, ⟨_, .inl h⟩, ?_⟩
      refine comp_new none ts.length (fun i => vs.getD i .non) (fun i us H2 => us = ts.take i) (by omega) (fun D hD => rfl) (fun i us H2 D ws s hD iv => iv) (fun l z => nomatch z) (fun i us H2 hi s iv => ⟨_, _, .inl (h.up (s.same _)), List.getElem?_eq_getElem (by omega)⟩) (fun i us H2 v H' hi s iv y => ?_) (fun us H2 s iv => ⟨_, .inl (h.up (s.same _)), by omega⟩) (fun i us H2 R hi s iv lu k => ?_) (fun D H2 ws us hD s d2 lu vl iv => ?_)
      · obtain ⟨e, y⟩ := y
        refine ⟨?_, e⟩
        have := y _ (.inl (h.up (s.same _)))
        rw [List.getD_eq_getElem?_getD, this]
        rfl
      · obtain ⟨u, hu⟩ : ∃ u, ts[i]? = some u := ⟨_, List.getElem?_eq_getElem hi⟩
        obtain ⟨x, hx, vx⟩ := r.get' hu
        have hm := List.mem_of_getElem? hu
        have dx := Pt.deepL_mem hm
        have ev : vs.getD i .non = x := by rw [List.getD_eq_getElem?_getD, hx]; rfl
        rw [ev]
        refine ⟨_, rfl, x, u, rfl, vx.up s.same, Pt.niceL_mem nc.2 u hm, by omega, fun w H3 s3 v3 => k w u H3 (.of s3) v3 ?_⟩
        rw [iv, List.take_add_one, hu]
        rfl
      · rw [List.take_length] at iv
        subst iv
        exact q _ H2 s.same (.lst (.inl (by rw [nw_new hD]; exact d2)) vl)
    | @tup a vs ts h r =>
      refine ⟨_, rfl, _, "list", "tuple", rfl, rfl, .tup h, _, rfl, iteF ⟨_, rfl, _, "tuple", "tuple", rfl, rfl, .tup h, _, rfl, iteT ?_⟩⟩
      simp only [Pt.nice] at nc
      simp only [Pt.deep] at hdp
      have lv := r.length
      refine ⟨_, rfl, a, rfl, ⟨_, SqT.of h⟩, ?_⟩
      refine comp_new none ts.length (fun i => vs.getD i .non) (fun i us H2 => us = ts.take i) (by omega) (fun D hD => rfl) (fun i us H2 D ws s hD iv => iv) (fun l z => nomatch z) (fun i us H2 hi s iv => ⟨_, _, SqT.of (s.same _ _ h), List.getElem?_eq_getElem (by omega)⟩) (fun i us H2 v H' hi s iv y => ?_) (fun us H2 s iv => ⟨_, SqT.of (s.same _ _ h), by omega⟩) (fun i us H2 R hi s iv lu k => ?_) (fun D H2 ws us hD s d2 lu vl iv => ?_)
      · obtain ⟨e, y⟩ := y
        refine ⟨?_, e⟩
        have := y _ (SqT.of (s.same _ _ h))
        rw [List.getD_eq_getElem?_getD, this]
        rfl
      · obtain ⟨u, hu⟩ : ∃ u, ts[i]? = some u := ⟨_, List.getElem?_eq_getElem hi⟩
        obtain ⟨x, hx, vx⟩ := r.get' hu
        have hm := List.mem_of_getElem? hu
        have dx := Pt.deepL_mem hm
        have ev : vs.getD i .non = x := by rw [List.getD_eq_getElem?_getD, hx]; rfl
        rw [ev]
        refine ⟨_, rfl, x, u, rfl, vx.up s.same, Pt.niceL_mem nc.2 u hm, by omega, fun w H3 s3 v3 => k w u H3 (.of s3) v3 ?_⟩
        rw [iv, List.take_add_one, hu]
        rfl
      · rw [List.take_length] at iv
        subst iv
        refine ⟨D, ws, rfl, .inl ⟨SqL.of d2, fun p hp => ?_⟩⟩
        have hp0 := s.same.free hp
        exact q _ _ (s.same.trans (Same.new hp)) (.tup (by rw [nw_new hp0, upd_same]) (vl.up (nw_up (fun b h => h) fun b e h1 h2 => by rw [upd_ne (fun z => by rw [z, hp] at h2; cases h2)]; exact h2)))
    | @dct a kvs ks ts h hk r =>
      refine ⟨_, rfl, _, "list", "dict", rfl, rfl, .dK h, _, rfl, iteF ⟨_, rfl, _, "tuple", "dict", rfl, rfl, .dK h, _, rfl, iteF ⟨_, rfl, _, "dict", "dict", rfl, rfl, .dK h, _, rfl, iteT ?_⟩⟩⟩
      simp only [Pt.nice] at nc
      simp only [Pt.deep] at hdp
      obtain ⟨nl, nd0, n9, nc⟩ := nc
      have kl : kvs.length = ks.length := by have := congrArg List.length hk; simpa using this
      refine ⟨a, _, h, fun o Hf F => ⟨_, rfl, a, o, _, rfl, F.at_, ?_⟩⟩
      refine comp_newP none ts.length (fun i => .str (ks.getD i "")) ks (fun i us H2 => us = ts.take i) (by omega) (fun D hD => rfl) (fun i us H2 D ws s hD iv => iv) (fun l z => nomatch z) (fun i us H2 hi s iv => ⟨s.same _ _ F.at_, by omega⟩) (fun i us H2 v H' hi s iv y => ?_) (fun us H2 s iv => ⟨s.same _ _ F.at_, by omega⟩) (fun i us H2 R hi s iv lu k => ?_) (fun D H2 qs ws us hD s d2 lq lu tt vl iv => ?_)
      · obtain ⟨e, k, w', e1, e2⟩ := y
        rw [(key_at hk e1).2] at e2
        exact ⟨e2, e⟩
      · obtain ⟨x, u, g1, g2, g3⟩ := val_at hk r nd0 (i := i) (by omega)
        have hm := List.mem_of_getElem? g2
        have dx := Pt.deepL_mem hm
        have rdp : SameR H H2 := F.rd.trans s.same.r
        refine ⟨_, rfl, _, rfl, _, rfl, a, x, rfl, .inl ⟨kvs, Sum.inr (ks.getD i ""), rdp a _ h, rfl, g1.symm⟩, x, u, rfl, g3.upK ((Kps.frz F).trans (.of s.same)), Pt.niceL_mem nc u hm, by omega, fun w H3 s3 v3 => ⟨two_line, fun t ht => k w u H3 t (.of s3) v3 ?_ ht⟩⟩
        rw [iv, List.take_add_one, g2]
        rfl
      · refine ⟨s.same _ _ F.at_, ?_⟩
        rw [List.take_length] at iv
        subst iv
        have sb := F.back s.same
        have ba : ∀ b, b ≠ a → back a H H2 b = H2 b := fun b hb => back_ne hb
        have Da : D ≠ a := (F.free hD).2
        have lw := vl.length
        have el : ks.length = ws.length := by omega
        refine ⟨D, qs, kvz ks ws, rfl, SqL.of (by rw [ba D Da]; exact d2), by rw [kvz_len el]; omega, fun j k v e => ?_, by rw [kvz_len el]; omega, fun p hp => ?_⟩
        · obtain ⟨x, h1, h2, h3⟩ := kvz_get e
          obtain ⟨t, ht⟩ : ∃ t, qs[j]? = some t := ⟨_, List.getElem?_eq_getElem (by have := (List.getElem?_eq_some_iff.mp h1).1; omega)⟩
          obtain ⟨g2, g3⟩ := tt j t v ht h2
          refine ⟨t, ht, ?_⟩
          rw [ba t (F.free g3).2, g2, h3, List.getD_eq_getElem?_getD, h1]
          rfl
        · rw [kvz_merge el nd0]
          have hpH : H p = none := sb.free hp
          have vl2 : ValL (nw H (upd (back a H H2) p (.dK (kvz ks ws)))) ws us := vl.up (nw_up (fun b h => (F.free h).1) fun b e h1 h2 => by
            have hb := (F.free h1).2
            have nb : b ≠ p := fun z => by rw [z] at h2 hb; rw [ba p hb, h2] at hp; cases hp
            rw [upd_ne nb, ba b hb]
            exact h2)
          exact q _ _ (sb.trans (Same.new hp)) (.dct (.inl (by rw [nw_new hpH, upd_same])) (kvz_keys el) (by rw [kvz_vals el]; exact vl2))
theorem all_Copy {f : Addr} {fd : FuncData} (F : Fun K "_law_copy" "_law_copy" sCopy f fd) (T : Txt mg) (b : Binds K fd ["_law_thing"] []) (m : mg "_law_copy" = some (.ref f)) : ∀ n : Nat, FnOk P w K mg base CX0 n f fd ["_law_thing"] (spCopyV n)
  | 0 => none0 (fun vs H Q E h => by obtain ⟨v, t, _, _, _, h0, _⟩ := h; have := Pt.deep_pos t; omega)
  | n + 1 => ok_Copy F T (Df.mk' F b m (all_Copy F T b m n))
end
end K41

set_option Elab.async false
set_option linter.all false
set_option maxRecDepth 100000
set_option maxHeartbeats 40000000
namespace K41
open PySem L2
section
variable {P : Program} {w : World} {K : PySem.W.Frag} {mg : Str → Option Value} {base : Heap}
theorem scAsks : FnScope ["_law_cells", "_law_deep", "_law_names_here", "_law_cell_here", "_law_kind", "_law_more", "_law_told", "_law_lacking", "_law_k", "_law_way"] ["_law_cells", "_law_deep", "_law_names_here"] (defScope sAsks) := ⟨rfl, rfl, rfl, by decide +kernel, rfl, by decide +kernel, by decide +kernel⟩
theorem ok_Asks {n : Nat} {f : Addr} {fd : FuncData} (F : Fun K "_law_asks" "_law_asks" sAsks f fd) (T : Txt mg) (DMix : Df P w K mg base "_law_mix" ["_law_cell_here", "_law_k"] 1 spMix) (DDoc : Df P w K mg base "_law_doc" ["_law_cell_here", "_law_k", "_law_names_here"] 2 spDocV) (DAsks : Df P w K mg base "_law_asks" ["_law_cells", "_law_deep", "_law_names_here"] n (spAsks n)) : FnOk P w K mg base CX0 (n + 1) f fd ["_law_cells", "_law_deep", "_law_names_here"] (spAsks (n + 1)) := by
  obtain ⟨fMix, dMix, kMix, bMix, mMix, GMix⟩ := DMix.ex
  obtain ⟨fDoc, dDoc, kDoc, bDoc, mDoc, GDoc⟩ := DDoc.ex
  obtain ⟨fAsks, dAsks, kAsks, bAsks, mAsks, GAsks⟩ := DAsks.ex
  refine F.ok scAsks (fun vs H Q E h => ?_) (fun cdv A outer s H vs Q E hr h => ?_)
  · obtain ⟨l, d, nm, cs, ys, rfl, hd, hl, lc, nl, hn, q⟩ := h
    rfl
  · obtain ⟨l, d, nm, cs, ys, rfl, hd, hl, lc, nl, hn, q⟩ := h
    have nd := scAsks.nd
    have hu := hu_of hr
    have hrMix : Room 1 _ := hr.mono (by first | decide | omega)
    have hrDoc : Room 2 _ := hr.mono (by first | decide | omega)
    have hrAsks : Room n _ := hr.mono (by first | decide | omega)
    refine ⟨_, (pss_cons (ps_if (pt_cmpR (op_eqE (Room.units0 hr)) (pv 0) (pe_lst pa_nil) (nomark _)) (pss_one (ps_ret (pe_tup (pa_cons pe_str pa_nil)))) pss_nil)
      (pss_cons (ps_set (i := 3) nd rfl (Or.inl rfl) (pe_alt (pe_bm PySem.F.plainAttrs_list PySem.F.slot_list_pop PySem.F.type_list_pop mt_popAt (pv 0) (pa_cons pe_int pa_nil)) (pe_dpop1 (pv 0) pe_int ⟨rfl, rfl, rfl, rfl⟩)))
      (pss_cons (ps_set (i := 4) nd rfl (Or.inl rfl) (pe_op op_mod (pe_call GMix hrMix rfl mMix kMix bMix .nil pass0 (pa_cons (pv 3) (pa_cons pe_int pa_nil))) pe_int))
      (pss_cons (ps_set (i := 5) nd rfl (Or.inl rfl) (pe_cmpR op_eq (pe_op op_mod (pe_call GMix hrMix rfl mMix kMix bMix .nil pass0 (pa_cons (pv 3) (pa_cons pe_int pa_nil))) pe_int) pe_int (nomark _)))
      (pss_cons (ps_if (PW.pt (pw_or (pt_cmpR op_eq (pv 4) pe_int (nomark _)) (pw_or1 (PW.pt (pw_and (pt_cmpR op_eq (pv 1) pe_int (nomark _)) (pw_and1 (pt_cmpR op_gt (pv 4) pe_int (nomark _)))))))) (pss_one (ps_ret (pe_tup (pa_cons pe_str pa_nil)))) pss_nil)
      (pss_cons (ps_if (pt_cmpR op_lt (pv 4) pe_int (nomark _)) (pss_one (ps_ret (pe_tup (pa_cons pe_str (pa_cons (pe_call GDoc hrDoc rfl mDoc kDoc bDoc .nil pass0 (pa_cons (pv 3) (pa_cons pe_int (pa_cons (pv 2) pa_nil)))) pa_nil))))) pss_nil)
      (pss_cons (ps_if (pt_cmpR op_lt (pv 4) pe_int (nomark _)) (pss_one (ps_ret (pe_tup (pa_cons pe_str (pa_cons (pe_comp (fv := ["_law_cells", "_law_names_here", "_law_deep"]) (fs := [0, 2, 1]) rfl (.of (by rfl)) (pi_range1 rfl T.range (pa_cons (pe_op op_mod (pe_call GMix hrMix rfl mMix kMix bMix .nil pass0 (pa_cons (pv 3) (pa_cons pe_int pa_nil))) pe_int) pa_nil)) (fun _ _ _ _ => pts_nil) (fun C s0 H0 fp => (pe_call GAsks hrAsks rfl mAsks kAsks bAsks .nil pass0 (pa_cons (pv 1) (pa_cons (pe_op op_sub (pv 3) pe_int) (pa_cons (pv 2) pa_nil)))))) (pa_cons (pv 5) pa_nil)))))) pss_nil)
      (pss_cons (ps_set (i := 6) nd rfl (Or.inl rfl) pe_dnewK)
      (pss_cons (ps_set (i := 7) nd rfl (Or.inl rfl) (pe_lst pa_nil))
      (pss_cons (ps_for PassesOwn.never rfl (pi_range1 rfl T.range (pa_cons pe_int pa_nil)) (pg_name (i := 8) nd rfl (Or.inl rfl)) (pss_cons (ps_set (i := 9) nd rfl (Or.inl rfl) (pe_op op_mod (pe_op op_fdiv (pe_call GMix hrMix rfl mMix kMix bMix .nil pass0 (pa_cons (pv 3) (pa_cons pe_int pa_nil))) (pe_ix (r := rIxL K) ix_list (pe_lst (pa_cons pe_int (pa_cons pe_int (pa_cons pe_int (pa_cons pe_int pa_nil))))) (pv 8) (fun _ _ => rfl))) pe_int))
      (pss_cons (ps_if (pt_cmpR op_gt (pv 9) pe_int (nomark _)) (pss_one (ps_dput hu (pv 6) (pe_ix (r := rIxL K) ix_list (pv 2) (pv 8) (fun _ _ => rfl)) (pe_call GAsks hrAsks rfl mAsks kAsks bAsks .nil pass0 (pa_cons (pv 0) (pa_cons (pe_op op_sub (pv 1) pe_int) (pa_cons (pv 2) pa_nil)))) rfl)) pss_nil)
      (pss_one (ps_if (pt_cmpR op_eq (pv 9) pe_int (nomark _)) (pss_one (ps_expr (pe_bm PySem.F.plainAttrs_list PySem.F.slot_list_append PySem.F.type_list_append mt_append (pv 7) (pa_cons (pe_ix (r := rIxL K) ix_list (pv 2) (pv 8) (fun _ _ => rfl)) pa_nil)))) pss_nil)))))
      (pss_one (ps_ret (pe_tup (pa_cons pe_str (pa_cons (pv 6) (pa_cons (pe_callB (call_sortedL rfl : CallR _ _ (rSortL K)) rfl T.sorted b_sorted (pa_cons (pv 7) pa_nil)) (pa_cons (pv 5) pa_nil))))))))))))))))), ?_⟩
    have hl0 : H l ≠ none := by rw [hl]; exact fun z => nomatch z
    refine ⟨_, rfl, Nat.zero_le _, fun pe hpe => ⟨l, pe, _, rfl, rfl, SqL.of ((Same.new hpe) _ _ hl), SqL.of upd_same, _, rfl, ?_⟩⟩
    have se := Same.new (o := .lst []) hpe
    generalize upd H pe (.lst []) = H1 at se ⊢
    have hl1 := se _ _ hl
    cases cs with
    | nil =>
      refine iteT ⟨one_line, fun p hp => ?_⟩
      have hp0 := se.free hp
      have lp : l ≠ p := fun z => by rw [← z, hl1] at hp; cases hp
      exact q _ .any [] _ (.of (se.trans (Same.new hp))) (by rw [upd_ne lp]; exact hl1) (Nat.le_refl _) (.tup (by rw [nw_new hp0, upd_same]) (.cons (.str _) .nil)) trivial (by simp [Ak.size]) (by simp [Ak.deep])
    | cons c cs =>
      refine iteF ?_
      refine .inl ⟨_, rfl, .inl ⟨rfl, _, SqL.of hl1⟩, l, _, 0, 0, .int c, rfl, rfl, hl1, by decide, by decide, (ixN_seq (by unfold ixN; rw [if_pos (by decide), if_pos (by simp)]; rfl)).1, rfl, ?_⟩
      have bt2 : Bt (some l) H (upd H1 l (.lst (cs.map V.int))) := (Bt.of se).put
      have hl2 : upd H1 l (.lst (cs.map V.int)) l = some (.lst (cs.map V.int)) := upd_same
      show tSeq _ _ _ _ (upd H1 l (.lst (cs.map V.int)))
      generalize upd H1 l (.lst (cs.map V.int)) = H2 at bt2 hl2 ⊢
      have hn2 := hn.but bt2 nl
      simp only [List.length_cons] at lc q
      have up2 : ∀ {H3 H4 : Hp} {v : V} {t : Pt}, Val (nw H2 H3) v t → (∀ b o, H3 b = some o → H4 b = some o) → Val (nw H H4) v t := fun h s => h.up (nw_up (fun b h => bt2.dom b h) fun b e _ h => s b e h)
      refine ⟨_, rfl, c, 0, rfl, by decide, fun r0 _ _ => ⟨_, _, rfl, rfl, (by show (0 : Int) < _; decide), ?_⟩⟩
      have m8 := mod_b r0 (n := 8) (by decide)
      generalize r0 % 8 = kd at m8 ⊢
      refine ⟨_, rfl, c, 2, rfl, by decide, fun r2 _ _ => ⟨_, _, rfl, rfl, (by show (0 : Int) < _; decide), rfl, ?_⟩⟩
      generalize decide (V.int (r2 % 2) = V.int 1) = mo
      dsimp only [gName]
      have anyT : ∀ p, H2 p = none → Q (.ref p) (upd H2 p (.tup [.str "any"])) := fun p hp => by
        have lp : l ≠ p := fun z => by rw [← z, hl2] at hp; cases hp
        exact q _ .any cs _ (bt2.trans (.of (Same.new hp))) (by rw [upd_ne lp]; exact hl2) (by omega) (.tup (by rw [nw_new (bt2.dom p hp), upd_same]) (.cons (.str _) .nil)) trivial (by simp [Ak.size]) (by simp [Ak.deep])
      refine seq_if (t := tIfS _ _ _) (fun H5 => H2 = H5 ∧ (d = 0 → kd ≤ 2)) (fun H5 ⟨e5, hk⟩ => ?_) (fun key => ?_)
      rotate_left
      · refine ⟨_, rfl, rfl, _, rfl, ite2B (fun _ => iteT ⟨one_line, anyT⟩) (fun _ => ⟨_, rfl, rfl, _, rfl, ite2B (fun h2 => ?_) (fun h2 => ?_)⟩)⟩
        · refine ⟨_, rfl, _, _, rfl, rfl, _, rfl, ite2B (fun _ => ⟨one_line, anyT⟩) (fun h3 => key H2 ⟨rfl, fun _ => ?_⟩)⟩
          have := of_decide_eq_false h3
          omega
        · refine iteF (key H2 ⟨rfl, fun z => ?_⟩)
          have := of_decide_eq_false h2
          subst z
          exact absurd rfl this
      subst e5
      refine ⟨_, rfl, _, _, rfl, rfl, _, rfl, ite2B (fun _ => ?_) (fun h3 => ?_)⟩
      · refine ⟨_, rfl, _, rfl, c, 1, nm, ys, rfl, by decide, hn2, fun v t H3 s3 sm => ⟨two_line, fun p hp => ?_⟩⟩
        have hp2 := s3.free hp
        have lp : l ≠ p := fun z => by rw [← z, hl2] at hp2; cases hp2
        refine q _ (.just t) cs _ (bt2.trans (.of (s3.trans (Same.new hp)))) (by rw [upd_ne lp]; exact s3 _ _ hl2) (by omega) (.tup (by rw [nw_new (bt2.dom p hp2), upd_same]) (.cons (.str _) (.cons (up2 sm.val (Same.new hp)) .nil))) ?_ (by simp [Ak.size]) (by simp [Ak.deep])
        simp only [Ak.ok]
        exact ⟨sm.sm, sm.doc, by have := sm.size; omega⟩
      have h3 := of_decide_eq_false h3
      obtain ⟨d', rfl⟩ : ∃ d', d = d' + 1 := ⟨d - 1, by omega⟩
      have ed : (((d' + 1 : Nat) : Int) - 1) = (d' : Int) := by omega
      refine ⟨_, rfl, _, _, rfl, rfl, _, rfl, ite2B (fun _ => ?_) (fun _ => ?_)⟩
      · refine ⟨_, rfl, c, 1, rfl, by decide, fun r1 _ _ => ⟨_, _, rfl, rfl, (by show (0 : Int) < _; decide), ?_⟩⟩
        have m4 := mod_b r1 (n := 4) (by decide)
        obtain ⟨k4, hk4⟩ : ∃ k : Nat, r1 % 4 = (k : Int) := ⟨(r1 % 4).toNat, by omega⟩
        have hk4' : k4 < 4 := by omega
        rw [hk4]
        refine ⟨k4, rfl, by omega, by omega, ?_⟩
        refine comp_new (some l) k4 (fun i => .int (0 + (i : Int))) (fun i us H3 => ∃ (as : List Ak) (cs' : List Int), us = Ak.ptL as ∧ H3 l = some (.lst (cs'.map V.int)) ∧ cs'.length ≤ cs.length ∧ Ak.okL as ∧ Ak.sizeL as ≤ i + 4 * (cs.length - cs'.length) ∧ Ak.deepL as ≤ d' + 1)
          (by omega) (fun D hD => ⟨[], cs, rfl, by rw [upd_ne (fun z => by rw [← z, hl2] at hD; cases hD)]; exact hl2, Nat.le_refl _, trivial, by simp [Ak.sizeL], by simp [Ak.deepL]⟩) (fun i us H3 D ws bt hD ⟨as, cs', h1, h2, h3⟩ => ⟨as, cs', h1, by rw [upd_ne (fun z => by rw [← z, hl2] at hD; cases hD)]; exact h2, h3⟩)
          (fun l' z => by cases z; rw [hl2]; exact fun z => nomatch z) (fun i us H3 hi s iv => hi) (fun i us H3 v H' hi s iv y => ⟨y.2, y.1⟩) (fun us H3 s iv => Nat.le_refl _) (fun i us H3 R hi bt ⟨as, cs', e1, e2, e3, e4, e5, e6⟩ lu k => ?_) (fun D H3 ws us hD bt d2 lu vl ⟨as, cs', e1, e2, e3, e4, e5, e6⟩ => ?_)
        · refine ⟨_, rfl, _, rfl, _, _, rfl, rfl, _, rfl, l, d', nm, cs', ys, by rw [ed]; rfl, by omega, e2, by omega, nl, hn2.but bt nl, fun v a cs2 H4 bt4 hl4 le4 v4 ok4 sz4 dp4 => k v a.pt H4 bt4 v4 ⟨as ++ [a], cs2, ?_, hl4, by omega, Ak.okL_append e4 (Ak.okL_one ok4), ?_, ?_⟩⟩
          · rw [Ak.ptL_append, e1]; rfl
          · rw [Ak.sizeL_append, Ak.sizeL_one]; omega
          · rw [Ak.deepL_append, Ak.deepL_one]; omega
        · refine ⟨_, rfl, le_line (show 3 ≤ 1000 by decide), fun p hp => ?_⟩
          have hp2 := bt.dom p hp
          have pD : D ≠ p := fun z => by rw [← z, d2] at hp; cases hp
          have lp : l ≠ p := fun z => by rw [← z, e2] at hp; cases hp
          subst e1
          refine q _ (.row as mo) cs' _ ((bt2.trans bt).trans (.of (Same.new hp))) (by rw [upd_ne lp]; exact e2) (by omega) (.tup (by rw [nw_new (bt2.dom p hp2), upd_same]) (.cons (.str _) (.cons (.lst (.inl (by rw [nw_new (bt2.dom D hD), upd_ne pD]; exact d2)) (vl.up (nw_up (fun b h => bt2.dom b h) fun b e _ h => Same.new hp b e h))) (.cons (.bl _) .nil)))) e4 ?_ ?_
          · simp only [Ak.size]; omega
          · simp only [Ak.deep]; omega
      · refine fun p6 hp6 => ?_
        have t6 := Same.new (o := .dK []) hp6
        have f6 : upd H2 p6 (.dK []) p6 = some (.dK []) := upd_same
        generalize upd H2 p6 (.dK []) = H3 at t6 f6 ⊢
        refine ⟨Nat.zero_le _, fun p7 hp7 => ?_⟩
        have t7 := Same.new (o := .lst []) hp7
        have f7 : upd H3 p7 (.lst []) p7 = some (.lst []) := upd_same
        have f6' := t7 _ _ f6
        generalize upd H3 p7 (.lst []) = H4 at t7 f7 f6' ⊢
        have bt4 : Bt (some l) H H4 := bt2.trans (.of (t6.trans t7))
        have T0 : TabI H H4 l p6 p7 ys (d' + 1) cs.length 0 H4 [] [] [] cs [] := {
          n6 := bt2.dom p6 hp6
          n7 := bt2.dom p7 (t6.free hp7)
          o6 := by rw [f6']; exact fun z => nomatch z
          o7 := by rw [f7]; exact fun z => nomatch z
          ne := fun z => by rw [z, f7] at f6'; cases f6'
          hl := hl0
          h4 := bt4.dom
          bt := bt4
          dm := fun b h => h
          e6 := f6'
          e7 := f7
          el := (t6.trans t7) _ _ hl2
          le := Nat.le_refl _
          lw := rfl
          la := rfl
          vl := .nil
          ok := trivial
          sz := by simp [Ak.sizeL]
          dp := by simp [Ak.deepL]
          ik := fun k h => nomatch h
          il := fun k h => nomatch h
          nk := .nil
          dj := fun k h => nomatch h
          l4 := Nat.le_refl _
          m4 := Nat.le_refl _ }
        refine ⟨4, rfl, by decide, by decide, for_range (lo := 0) (n := 4) (fun i σ Hi => ∃ (ks : List Str) (as : List Ak) (ls : List Str) (cs' : List Int) (ws : List V) (o8 o9 : Option V), σ = [some (.ref l), some (.int ((d' + 1 : Nat) : Int)), some (.ref nm), some (.int c), some (.int kd), some (.bl mo), some (.ref p6), some (.ref p7), o8, o9] ∧ TabI H H4 l p6 p7 ys (d' + 1) cs.length i Hi ks as ls cs' ws)
          ⟨[], [], [], cs, [], none, none, rfl, T0⟩ ?_ ?_⟩
        · rintro i σ Hi hi ⟨ks, as, ls, cs', ws, o8, o9, rfl, TI⟩
          obtain ⟨y, hy⟩ : ∃ y, ys[i]? = some y := ⟨_, List.getElem?_eq_getElem (by rw [hn.len]; exact hi)⟩
          have ay : atI (ys.map V.str) (0 + (i : Int)) = some (.str y) := by
            have e0 : (0 : Int) + (i : Int) = (i : Int) := by omega
            rw [e0]
            exact atI_nat (by rw [List.getElem?_map, hy]; rfl)
          obtain ⟨v4, hv4, mv4⟩ := pick_mem (xs := [V.int 1, V.int 4, V.int 16, V.int 64]) (i := 0 + (i : Int)) (by omega) (by simp only [List.length_cons, List.length_nil]; omega)
          have vb : ∃ m : Int, v4 = .int m ∧ 0 < m ∧ m < 1073741824 := by
            simp only [List.mem_cons, List.not_mem_nil, or_false] at mv4
            rcases mv4 with rfl | rfl | rfl | rfl
            · exact ⟨_, rfl, by decide, by decide⟩
            · exact ⟨_, rfl, by decide, by decide⟩
            · exact ⟨_, rfl, by decide, by decide⟩
            · exact ⟨_, rfl, by decide, by decide⟩
          obtain ⟨m, rfl, hm1, hm2⟩ := vb
          refine ⟨_, rfl, c, 1, rfl, by decide, fun r1 _ _ => ⟨le_line (show 4 ≤ 1000 by decide), fun pl hpl => ⟨_, rfl, pl, _, _, _, rfl, rfl, SqL.of upd_same, hv4, _, _, rfl, rfl, ⟨hm1, hm2⟩, _, _, rfl, rfl, (by show (0 : Int) < _; decide), ?_⟩⟩⟩
          have TI1 := TI.up (Same.new (o := .lst [V.int 1, V.int 4, V.int 16, V.int 64]) hpl)
          generalize upd Hi pl (.lst [V.int 1, V.int 4, V.int 16, V.int 64]) = Hj at TI1 ⊢
          clear TI
          generalize r1 / m % 4 = wy
          have hnj := hn.but TI1.bt nl
          dsimp only [gName]
          refine ⟨_, rfl, _, _, rfl, rfl, _, rfl, ite2B (fun h1 => ?_) (fun h1 => ?_)⟩
          · have h1 := of_decide_eq_true h1
            refine ⟨_, rfl, _, rfl, _, _, rfl, rfl, _, rfl, l, d', nm, cs', ys, by rw [ed]; rfl, by omega, TI1.el, by have := TI1.le; omega, nl, hnj, fun v a cs2 H5 bt5 hl5 le5 v5 ok5 sz5 dp5 => ?_⟩
            obtain ⟨g1, g2, TI2⟩ := TI1.asked hy hn.nd bt5 hl5 le5 v5 ok5 sz5 dp5
            have l4 := TI1.l4
            refine ⟨_, rfl, _, rfl, _, rfl, nm, _, _, _, rfl, rfl, SqL.of (hnj.but bt5 nl).at_, ay, p6, _, rfl, .inl ⟨_, Sum.inr y, g1, rfl, small1000 (by rw [kvz_len TI1.lw]; omega), rfl⟩, ?_⟩
            rw [g2]
            refine ⟨_, rfl, rfl, _, rfl, iteBF (decide_eq_false fun z => ?_) ⟨_, _, _, _, _, _, _, rfl, TI2⟩⟩
            have := V.int.inj z
            omega
          · refine ⟨_, rfl, rfl, _, rfl, ite2B (fun _ => ?_) (fun _ => ⟨_, _, _, _, _, _, _, rfl, TI1.weak⟩)⟩
            have m4 := TI1.m4
            exact ⟨_, rfl, .inl ⟨rfl, _, SqL.of TI1.e7⟩, _, rfl, _, rfl, nm, _, _, _, rfl, rfl, SqL.of hnj.at_, ay, p7, _, _, rfl, rfl, TI1.e7, small1000 (by rw [List.length_map]; omega), _, _, _, _, _, _, _, rfl, TI1.lack hy hn.nd⟩
        · rintro σ Hi ⟨ks, as, ls, cs', ws, o8, o9, rfl, TI⟩
          have l4 := TI.l4
          have m4 := TI.m4
          refine ⟨_, rfl, _, rfl, p7, ls, rfl, SqL.of TI.e7, by omega, fun p8 ss H5 np8 s5 f8 pm _ => ⟨_, rfl, le_line (show 4 ≤ 1000 by decide), fun p hp => ?_⟩⟩
          have hpi := s5.free hp
          have hp0 := TI.bt.dom p hpi
          have p8p : p8 ≠ p := fun z => by rw [← z, f8] at hp; cases hp
          have h8 : H p8 = none := TI.bt.dom p8 np8
          have lp : l ≠ p := fun z => hl0 (by rw [z]; exact hp0)
          have p6p : p6 ≠ p := fun z => by have := s5 _ _ TI.e6; rw [z, hp] at this; cases this
          have s6 := s5.trans (Same.new (o := .tup [.str "table", .ref p6, .ref p8, .bl mo]) hp)
          refine q _ (.tab ks as ss mo) cs' _ (TI.bt.trans (.of s6)) (s6 _ _ TI.el) (by have := TI.le; omega) (.tup (by rw [nw_new hp0, upd_same]) (.cons (.str _) (.cons (.dct (.inl (by rw [nw_new TI.n6]; exact s6 _ _ TI.e6)) (kvz_keys TI.lw) ?_) (.cons (.lst (.inl (by rw [nw_new h8, upd_ne p8p]; exact f8)) ?_) (.cons (.bl _) .nil))))) ?_ ?_ ?_
          · rw [kvz_vals TI.lw]
            exact TI.vl.up (nw_up (fun b h => TI.h4 b h) fun b e _ h => s6 _ _ h)
          · have gen : ∀ {G : Hp} (ls : List Str), ValL G (ls.map V.str) (ls.map Pt.str) := by
              intro G ls
              induction ls with
              | nil => exact .nil
              | cons x r ih => exact .cons (.str x) ih
            exact gen ss
          · simp only [Ak.ok]
            exact ⟨TI.la, TI.nk, fun k hk => let ⟨j, _, h2⟩ := TI.ik k hk; hn.nb k (List.mem_of_getElem? h2), by omega, by rw [pm.length_eq]; omega, fun x hx => TI.dj x (pm.mem_iff.mp hx), TI.ok⟩
          · have := TI.sz
            have := TI.le
            simp only [Ak.size]; omega
          · have := TI.dp
            simp only [Ak.deep]; omega
theorem all_Asks {f : Addr} {fd : FuncData} (F : Fun K "_law_asks" "_law_asks" sAsks f fd) (T : Txt mg) (b : Binds K fd ["_law_cells", "_law_deep", "_law_names_here"] []) (m : mg "_law_asks" = some (.ref f)) (DMix : Df P w K mg base "_law_mix" ["_law_cell_here", "_law_k"] 1 spMix) (DDoc : Df P w K mg base "_law_doc" ["_law_cell_here", "_law_k", "_law_names_here"] 2 spDocV) : ∀ n : Nat, FnOk P w K mg base CX0 n f fd ["_law_cells", "_law_deep", "_law_names_here"] (spAsks n)
  | 0 => none0 (fun vs H Q E h => by obtain ⟨_, _, _, _, _, _, h0, _⟩ := h; omega)
  | n + 1 => ok_Asks F T DMix DDoc (Df.mk' F b m (all_Asks F T b m DMix DDoc n))
end
end K41

set_option Elab.async false
set_option linter.all false
set_option maxRecDepth 100000
set_option maxHeartbeats 40000000
namespace K41
open PySem L2
section
variable {P : Program} {w : World} {K : PySem.W.Frag} {mg : Str → Option Value} {base : Heap}
theorem scFit : FnScope ["_law_asks_here", "_law_cells", "_law_names_here", "_law_cell_here", "_law_some", "_law_doc_here", "_law_k", "_law_name"] ["_law_asks_here", "_law_cells", "_law_names_here"] (defScope sFit) := ⟨rfl, rfl, rfl, by decide +kernel, rfl, by decide +kernel, by decide +kernel⟩
theorem ok_Fit {n : Nat} {f : Addr} {fd : FuncData} (F : Fun K "_law_fit" "_law_fit" sFit f fd) (T : Txt mg) (DMix : Df P w K mg base "_law_mix" ["_law_cell_here", "_law_k"] 1 spMix) (DDoc : Df P w K mg base "_law_doc" ["_law_cell_here", "_law_k", "_law_names_here"] 2 spDocV) (DCopy : Df P w K mg base "_law_copy" ["_law_thing"] 6 (spCopyV 6)) (DFit : Df P w K mg base "_law_fit" ["_law_asks_here", "_law_cells", "_law_names_here"] n (spFit n)) : FnOk P w K mg base CX0 (n + 1) f fd ["_law_asks_here", "_law_cells", "_law_names_here"] (spFit (n + 1)) := by
  obtain ⟨fMix, dMix, kMix, bMix, mMix, GMix⟩ := DMix.ex
  obtain ⟨fDoc, dDoc, kDoc, bDoc, mDoc, GDoc⟩ := DDoc.ex
  obtain ⟨fCopy, dCopy, kCopy, bCopy, mCopy, GCopy⟩ := DCopy.ex
  obtain ⟨fFit, dFit, kFit, bFit, mFit, GFit⟩ := DFit.ex
  refine F.ok scFit (fun vs H Q E h => ?_) (fun cdv A outer s H vs Q E hr h => ?_)
  · obtain ⟨w, a0, l, nm, cs, ys, rfl, hw, hok, hd, za, hl, lc, nl, hn, q⟩ := h
    rfl
  · obtain ⟨w, a0, l, nm, cs, ys, rfl, hw, hok, hd, za, hl, lc, nl, hn, q⟩ := h
    have nd := scFit.nd
    have hu := hu_of hr
    have hrMix : Room 1 _ := hr.mono (by first | decide | omega)
    have hrDoc : Room 2 _ := hr.mono (by first | decide | omega)
    have hrCopy : Room 6 _ := hr.mono (by first | decide | omega)
    have hrFit : Room n _ := hr.mono (by first | decide | omega)
    refine ⟨_, (pss_cons (ps_set (i := 3) nd rfl (Or.inr rfl) pe_int)
      (pss_cons (ps_if (pt_cmpR (op_neE (Room.units0 hr)) (pv 1) (pe_lst pa_nil) (nomark _)) (pss_one (ps_set (i := 3) nd rfl (Or.inr rfl) (pe_alt (pe_bm PySem.F.plainAttrs_list PySem.F.slot_list_pop PySem.F.type_list_pop mt_popAt (pv 1) (pa_cons pe_int pa_nil)) (pe_dpop1 (pv 1) pe_int ⟨rfl, rfl, rfl, rfl⟩)))) pss_nil)
      (pss_cons (ps_if (pt_cmpR op_eq (pe_ix (r := rIxT K) ix_tup (pv 0) pe_int (fun _ _ => rfl)) pe_str (nomark _)) (pss_one (ps_ret (pe_call GDoc hrDoc rfl mDoc kDoc bDoc .nil pass0 (pa_cons (pv 3) (pa_cons pe_int (pa_cons (pv 2) pa_nil)))))) pss_nil)
      (pss_cons (ps_if (pt_cmpR op_eq (pe_ix (r := rIxT K) ix_tup (pv 0) pe_int (fun _ _ => rfl)) pe_str (nomark _)) (pss_one (ps_ret (pe_call GCopy hrCopy rfl mCopy kCopy bCopy .nil pass0 (pa_cons (pe_ix (r := rIxT K) ix_tup (pv 0) pe_int (fun _ _ => rfl)) pa_nil)))) pss_nil)
      (pss_cons (ps_setComp (i := 4)  (fv := ["_law_cell_here", "_law_names_here"]) (fs := [3, 2]) rfl (.of (by rfl)) nd rfl (Or.inl rfl) (pi_range1 rfl T.range (pa_cons (pe_op op_mod (pe_call GMix hrMix rfl mMix kMix bMix .nil pass0 (pa_cons (pv 3) (pa_cons pe_int pa_nil))) pe_int) pa_nil)) (fun _ _ _ _ => pts_nil) (fun C s0 H0 fp => (pe_call GDoc hrDoc rfl mDoc kDoc bDoc .nil pass0 (pa_cons (pv 1) (pa_cons (pe_op op_add pe_int (pv 0)) (pa_cons (pv 2) pa_nil))))))
      (pss_cons (ps_if (pt_cmpR op_eq (pe_ix (r := rIxT K) ix_tup (pv 0) pe_int (fun _ _ => rfl)) pe_str (nomark _)) (pss_one (ps_ret (pe_op op_cat (pe_comp (fv := ["_law_cells", "_law_names_here"]) (fs := [1, 2]) rfl (.of (by rfl)) (pi_list (pe_ix (r := rIxT K) ix_tup (pv 0) pe_int (fun _ _ => rfl))) (fun _ _ _ _ => pts_nil) (fun C s0 H0 fp => (pe_call GFit hrFit rfl mFit kFit bFit .nil pass0 (pa_cons (pv 0) (pa_cons (pv 1) (pa_cons (pv 2) pa_nil)))))) (pe_op op_rep (pv 4) (pe_callTy call_int1 rfl T.int b_int (pa_cons (pe_ix (r := rIxT K) ix_tup (pv 0) pe_int (fun _ _ => rfl)) pa_nil)))))) pss_nil)
      (pss_cons (ps_set (i := 5) nd rfl (Or.inl rfl) (pe_callTy (call_dict_pairs rfl) rfl T.dict b_dict (pa_cons (pe_comp (fv := ["_law_cells", "_law_names_here", "_law_asks_here"]) (fs := [1, 2, 0]) rfl (.of (by rfl)) (pi_list (pe_callB (call_sortedD rfl) rfl T.sorted b_sorted (pa_cons (pe_ix (r := rIxT K) ix_tup (pv 0) pe_int (fun _ _ => rfl)) pa_nil))) (fun _ _ _ _ => pts_nil) (fun C s0 H0 fp => (pe_tup (pa_cons (pv 0) (pa_cons (pe_call GFit hrFit rfl mFit kFit bFit .nil pass0 (pa_cons (pe_dget hu (pe_ix (r := rIxT K) ix_tup (pv 3) pe_int (fun _ _ => rfl)) (pv 0) (fun _ _ => rfl)) (pa_cons (pv 1) (pa_cons (pv 2) pa_nil)))) pa_nil))))) pa_nil)))
      (pss_cons (ps_for PassesOwn.never rfl (pi_range1 rfl T.range (pa_cons (pe_op op_mul (pe_callB call_len_seq rfl T.len PySem.boot_len (pa_cons (pv 4) pa_nil)) (pe_callTy call_int1 rfl T.int b_int (pa_cons (pe_ix (r := rIxT K) ix_tup (pv 0) pe_int (fun _ _ => rfl)) pa_nil))) pa_nil)) (pg_name (i := 6) nd rfl (Or.inl rfl)) (pss_cons (ps_set (i := 7) nd rfl (Or.inl rfl) (pe_ix (r := rIxL K) ix_list (pv 2) (pe_op op_mod (pe_op op_add (pe_call GMix hrMix rfl mMix kMix bMix .nil pass0 (pa_cons (pv 3) (pa_cons pe_int pa_nil))) (pv 6)) pe_int) (fun _ _ => rfl)))
      (pss_one (ps_if (PW.pt (pw_and (pt_cmp (pc_dnotin hu (pv 7) (pe_ix (r := rIxT K) ix_tup (pv 0) pe_int (fun _ _ => rfl)))) (pw_and1 (pt_cmpR (op_notIn_seq : OpR _ _ (rIn K true)) (pv 7) (pe_ix (r := rIxT K) ix_tup (pv 0) pe_int (fun _ _ => rfl)) rfl)))) (pss_one (ps_dput hu (pv 5) (pv 7) (pe_ix (r := rIxL K) ix_list (pv 4) (pv 6) (fun _ _ => rfl)) rfl)) pss_nil))))
      (pss_one (ps_ret (pv 5))))))))))), ?_⟩
    have hl0 : H l ≠ none := by rw [hl]; exact fun z => nomatch z
    refine seq_c ?_
    refine seq_st (t := tIfS _ _ _) (fun σ' H1 => ∃ (c : Int) (cs1 : List Int), σ' = [some w, some (.ref l), some (.ref nm), some (.int c), none, none, none, none] ∧ Bt (some l) H H1 ∧ H1 l = some (.lst (cs1.map V.int)) ∧ cs1.length ≤ cs.length) (fun σ' H1 ⟨c, cs1, es, bt1, hl1, le1⟩ => ?_) (fun key => ?_)
    rotate_left
    · refine ⟨_, rfl, Nat.zero_le _, fun pe hpe => ⟨l, pe, _, rfl, rfl, SqL.of ((Same.new hpe) _ _ hl), SqL.of upd_same, _, rfl, ?_⟩⟩
      have se := Same.new (o := .lst []) hpe
      generalize upd H pe (.lst []) = H1 at se ⊢
      have hl1 := se _ _ hl
      cases cs with
      | nil => exact iteF (key _ _ ⟨1001, [], rfl, .of se, hl1, Nat.le_refl _⟩)
      | cons c cs =>
        refine iteT ?_
        exact .inl ⟨_, rfl, .inl ⟨rfl, _, SqL.of hl1⟩, l, _, 0, 0, .int c, rfl, rfl, hl1, by decide, by decide, (ixN_seq (by unfold ixN; rw [if_pos (by decide), if_pos (by simp)]; rfl)).1, rfl, key _ _ ⟨c, cs, rfl, (Bt.of se).put, upd_same, by simp⟩⟩
    subst es
    have hn1 := hn.but bt1 nl
    have hw1 := hw.up bt1.hid
    obtain ⟨t0, w0, rest, rfl, htG, kinds⟩ := hw1.ak
    have ht1 : H1 t0 = _ := hid_sub _ _ htG
    rcases kinds with ⟨rfl, rfl, rfl⟩ | ⟨d, u, rfl, rfl, rfl, hu0⟩ | ⟨xs, m, u, rfl, rfl, rfl, hu0⟩ | ⟨ks, xs, ls, m, u, z, rfl, rfl, rfl, hu0, hz⟩
    · refine ⟨_, rfl, t0, _, 0, _, rfl, rfl, SqT.of ht1, at0, rfl, _, rfl, iteBT (by decide +kernel) ?_⟩
      refine ⟨_, rfl, _, rfl, c, 3, nm, ys, rfl, by decide, hn1, fun v t H2 s2 sm => q v t cs1 H2 (bt1.trans (.of s2)) (s2 _ _ hl1) le1 (sm.val.up (nw_up (fun b h => bt1.dom b h) fun b e _ h => h)) sm.doc ?_ ?_ ?_⟩
      · have := sm.size; simp only [Ak.size]; omega
      · have := sm.deep; simp only [Ak.deep]; omega
      · have := Pt.wide_size t sm.doc; have := sm.size; omega
    · refine ⟨_, rfl, t0, _, 0, _, rfl, rfl, SqT.of ht1, at0, rfl, _, rfl, iteBF (by decide +kernel) ?_⟩
      refine ⟨_, rfl, t0, _, 0, _, rfl, rfl, SqT.of ht1, at0, rfl, _, rfl, iteBT (by decide +kernel) ?_⟩
      simp only [Ak.ok] at hok
      have dd := hok.1.deep_le
      refine ⟨_, rfl, t0, _, 1, u, rfl, rfl, SqT.of ht1, at1, u, d, rfl, hu0.up hid_sub, Pt.doc_nice d hok.2.1 (by omega), by omega, fun v H2 s2 v2 => q v d cs1 H2 (bt1.trans (.of s2)) (s2 _ _ hl1) le1 (v2.up (nw_up (fun b h => bt1.dom b h) fun b e _ h => h)) hok.2.1 ?_ ?_ ?_⟩
      · simp only [Ak.size]; omega
      · simp only [Ak.deep]; omega
      · have := Pt.wide_size d hok.2.1; omega
    · skip
      refine ⟨_, rfl, t0, _, 0, _, rfl, rfl, SqT.of ht1, at0, rfl, _, rfl, iteBF (by decide +kernel) ?_⟩
      refine ⟨_, rfl, t0, _, 0, _, rfl, rfl, SqT.of ht1, at0, rfl, _, rfl, iteBF (by decide +kernel) ?_⟩
      refine ⟨_, rfl, c, 3, rfl, by decide, fun r3 _ _ => ⟨_, _, rfl, rfl, (by show (0 : Int) < _; decide), ?_⟩⟩
      have m3 := mod_b r3 (n := 3) (by decide)
      obtain ⟨k3, hk3⟩ : ∃ k : Nat, r3 % 3 = (k : Int) := ⟨(r3 % 3).toNat, by omega⟩
      have hk3' : k3 < 3 := by omega
      rw [hk3]
      refine ⟨k3, rfl, by omega, by omega, ?_⟩
      refine comp_new none k3 (fun i => .int (0 + (i : Int))) (fun i us H2 => Smalls us) (by omega) (fun D hD u h => nomatch h) (fun i us H2 D ws bt hD iv => iv) (fun l' z => nomatch z) (fun i us H2 hi s iv => hi) (fun i us H2 v H' hi s iv y => ⟨y.2, y.1⟩) (fun us H2 s iv => Nat.le_refl _) (fun i us H2 R hi bt iv lu k => ?_) (fun D4 H2 ws4 us4 hD4 bts d4 lu4 vl4 sm4 => ?_)
      · have e0 : (4 : Int) + (0 + (i : Int)) = ((4 + i : Nat) : Int) := by omega
        refine ⟨_, rfl, _, rfl, _, _, rfl, rfl, _, rfl, c, 4 + i, nm, ys, by rw [e0]; rfl, by omega, hn1.up bt.same, fun v t H3 s3 sm => k v t H3 (.of s3) sm.val ?_⟩
        intro x hx
        rcases List.mem_append.mp hx with hx | hx
        · exact iv x hx
        · rw [List.mem_singleton.mp hx]; exact ⟨sm.doc, sm.size, sm.deep⟩
      have s12 := bts.same
      have bt2 : Bt (some l) H H2 := bt1.trans (.of s12)
      have hl2 := s12 _ _ hl1
      have ht2 := s12 _ _ ht1
      have hn2 := hn1.up s12
      have lw4 := vl4.length
      refine ⟨_, rfl, t0, _, 0, _, rfl, rfl, SqT.of ht2, at0, rfl, _, rfl, iteBT (by decide +kernel) ?_⟩
      simp only [Ak.ok] at hok
      simp only [Ak.deep] at hd
      simp only [Ak.size] at za
      have lxa := Ak.lenL xs
      cases hu0 with
      | @lst a vs _ haG ra =>
        have la := ra.length
        rw [Ak.ptL_map, List.length_map] at la
        have ha1 : Rd H1 a (.lst vs) := haG.up (hid_sub _)
        have al : a ≠ l := fun z => by
          subst z
          rcases haG with h | ⟨o, h⟩ <;> (unfold hid at h; rw [if_pos rfl] at h; cases h)
        have haN : ∀ {H3 : Hp}, Bt (some l) H1 H3 → Rd H3 a (.lst vs) := fun bt => ha1.up fun o e => bt.keep a o (fun z => al (Option.some.inj z).symm) e
        have b12 : Bt (some l) H1 H2 := .of s12
        refine ⟨_, rfl, t0, _, 1, _, rfl, rfl, SqT.of ht2, at1, a, rfl, ⟨_, .inl (haN b12)⟩, ?_⟩
        refine comp_new (some l) xs.length (fun i => vs.getD i .non) (fun i us H3 => ∃ cs' : List Int, H3 l = some (.lst (cs'.map V.int)) ∧ cs'.length ≤ cs1.length ∧ Pt.docL us ∧ Pt.sizeL us ≤ 10 * Ak.sizeL (xs.take i) ∧ Pt.deepL us ≤ Ak.deepL xs + 2 ∧ Pt.wideL us ≤ 61)
          (by omega) (fun D hD => ⟨cs1, by rw [upd_ne (fun z => by rw [← z, hl2] at hD; cases hD)]; exact hl2, Nat.le_refl _, trivial, by simp [Pt.sizeL], by simp [Pt.deepL], by simp [Pt.wideL]⟩) (fun i us H3 D ws bt hD ⟨cs', h1, h2⟩ => ⟨cs', by rw [upd_ne (fun z => by rw [← z, hl2] at hD; cases hD)]; exact h1, h2⟩)
          (fun l' z => by cases z; rw [hl2]; exact fun z => nomatch z) (fun i us H3 hi s iv => ⟨_, _, .inl (haN (b12.trans s)), List.getElem?_eq_getElem (by omega)⟩) (fun i us H3 v H' hi s iv y => ?_) (fun us H3 s iv => ⟨_, .inl (haN (b12.trans s)), by omega⟩) (fun i us H3 R hi bt ⟨cs', e2, e3, e4, e5, e6, e7⟩ lu k => ?_) (fun D H3 ws us hD bt d2 lu vl ⟨cs', e2, e3, e4, e5, e6, e7⟩ => ?_)
        · obtain ⟨e, y⟩ := y
          refine ⟨?_, e⟩
          have := y _ (.inl (haN (b12.trans s)))
          rw [List.getD_eq_getElem?_getD, this]
          rfl
        · obtain ⟨x, hx⟩ : ∃ x, vs[i]? = some x := ⟨_, List.getElem?_eq_getElem (by omega)⟩
          obtain ⟨px, g1, vx⟩ := ra.get hx
          obtain ⟨ax, hax⟩ : ∃ ax, xs[i]? = some ax := ⟨_, List.getElem?_eq_getElem hi⟩
          rw [Ak.ptL_map, List.getElem?_map, hax] at g1
          cases g1
          have m1 := List.mem_of_getElem? hax
          have d1 := Ak.deepL_mem m1
          have z1 := Ak.sizeL_mem m1
          have ev : vs.getD i .non = x := by rw [List.getD_eq_getElem?_getD, hx]; rfl
          rw [ev]
          refine ⟨_, rfl, _, rfl, _, rfl, x, ax, l, nm, cs', ys, rfl, vx.up (b12.trans bt).hid, Ak.okL_mem hok _ m1, by omega, by omega, e2, by omega, nl, hn2.but bt nl, fun v t cs2 H4 bt4 hl4 le4 v4 d4' z4 p4 w4 => k v t H4 bt4 v4 ⟨cs2, hl4, by omega, Pt.docL_append e4 ⟨d4', trivial⟩, ?_, ?_, by rw [Pt.wideL_append]; simp only [Pt.wideL]; omega⟩⟩
          · rw [Pt.sizeL_append, List.take_add_one, hax, Ak.sizeL_append]
            simp only [Pt.sizeL, Option.toList, Ak.sizeL]
            omega
          · rw [Pt.deepL_append]
            simp only [Pt.deepL]
            omega
        · rw [List.take_length] at e5
          have d43 := bt.keep D4 _ (fun z => by rw [← Option.some.inj z, hl1] at hD4; cases hD4) d4
          have t3 := bt.keep t0 _ (fun z => by
            have := htG
            unfold hid at this
            rw [if_pos (Option.some.inj z).symm] at this
            cases this) ht2
          refine ⟨_, rfl, _, rfl, t0, _, 2, _, rfl, rfl, SqT.of t3, at2, .inr ⟨m, rfl, ?_⟩⟩
          have sz4 := sm4.size
          have dp4 := sm4.deep
          have lv := vl.length
          have lu5 := Pt.lenL us
          have fin : ∀ (kk : Nat), kk ≤ 1 → tOp rCat (fun σ H Q => Q (V.ref D) H) (fun σ H Q => rRep (V.ref D4) (V.int (kk : Int)) H Q) [] H3 Q := fun kk hkk => by
            refine ⟨D4, (kk : Int), ws4, rfl, rfl, d43, by omega, by omega, le_line (by rw [Int.toNat_natCast]; have : ws4.length * kk ≤ ws4.length * 1 := Nat.mul_le_mul_left _ hkk; omega), fun p hp => ?_⟩
            rw [Int.toNat_natCast]
            obtain ⟨wr, ur, rp, ru⟩ : ∃ (wr : List V) (ur : List Pt), (List.replicate kk ws4).flatten = wr ∧ (wr = ws4 ∧ ur = us4 ∨ wr = [] ∧ ur = []) := by
              have : kk = 0 ∨ kk = 1 := by omega
              rcases this with rfl | rfl
              · exact ⟨[], [], by simp, .inr ⟨rfl, rfl⟩⟩
              · exact ⟨ws4, us4, by simp, .inl ⟨rfl, rfl⟩⟩
            rw [rp]
            have lr : wr.length ≤ 2 := by
              rcases ru with ⟨rfl, rfl⟩ | ⟨rfl, rfl⟩
              · omega
              · simp
            have z4 : Pt.sizeL ur ≤ 8 := by
              rcases ru with ⟨rfl, rfl⟩ | ⟨rfl, rfl⟩
              · omega
              · simp [Pt.sizeL]
            have y4 : Pt.deepL ur ≤ 2 := by
              rcases ru with ⟨rfl, rfl⟩ | ⟨rfl, rfl⟩
              · omega
              · simp [Pt.deepL]
            have x4 : Pt.docL ur := by
              rcases ru with ⟨rfl, rfl⟩ | ⟨rfl, rfl⟩
              · exact sm4.docs
              · trivial
            have v4 : ValL (nw H1 H2) wr ur := by
              rcases ru with ⟨rfl, rfl⟩ | ⟨rfl, rfl⟩
              · exact vl4
              · exact .nil
            have sp := Same.new (o := .lst wr) hp
            have fp : upd H3 p (.lst wr) p = some (.lst wr) := upd_same
            generalize upd H3 p (.lst wr) = H4 at sp fp ⊢
            refine ⟨D, p, _, _, rfl, rfl, sp _ _ d2, fp, le_line (by omega), fun p2 hp2 => ?_⟩
            have sp2 := sp.trans (Same.new (o := .lst (ws ++ wr)) hp2)
            have hp20 := bt2.dom p2 (bt.dom p2 (sp.free hp2))
            refine q _ (.lst (us ++ ur)) cs' _ ((bt2.trans bt).trans (.of sp2)) (sp2 _ _ e2) (by omega) (.lst (.inl (by rw [nw_new hp20, upd_same])) ((vl.up (nw_up (fun b h => bt2.dom b h) fun b e h1 h2 => sp2 _ _ h2)).append (v4.up (nw_up (fun b h => bt1.dom b h) fun b e h1 h2 => sp2 _ _ (bt.keep b e (fun z => by rw [← Option.some.inj z, hl1] at h1; cases h1) h2))))) (Pt.docL_append e4 x4) ?_ ?_ ?_
            · simp only [Pt.size, Ak.size]; rw [Pt.sizeL_append]; omega
            · simp only [Pt.deep, Ak.deep]; rw [Pt.deepL_append]; omega
            · have := Pt.wide_sizeL ur x4; simp only [Pt.wide]; rw [Pt.wideL_append]; omega
          cases m with
          | true => exact fin 1 (by decide)
          | false => exact fin 0 (by decide)
    · skip
      refine ⟨_, rfl, t0, _, 0, _, rfl, rfl, SqT.of ht1, at0, rfl, _, rfl, iteBF (by decide +kernel) ?_⟩
      refine ⟨_, rfl, t0, _, 0, _, rfl, rfl, SqT.of ht1, at0, rfl, _, rfl, iteBF (by decide +kernel) ?_⟩
      refine ⟨_, rfl, c, 3, rfl, by decide, fun r3 _ _ => ⟨_, _, rfl, rfl, (by show (0 : Int) < _; decide), ?_⟩⟩
      have m3 := mod_b r3 (n := 3) (by decide)
      obtain ⟨k3, hk3⟩ : ∃ k : Nat, r3 % 3 = (k : Int) := ⟨(r3 % 3).toNat, by omega⟩
      have hk3' : k3 < 3 := by omega
      rw [hk3]
      refine ⟨k3, rfl, by omega, by omega, ?_⟩
      refine comp_new none k3 (fun i => .int (0 + (i : Int))) (fun i us H2 => Smalls us) (by omega) (fun D hD u h => nomatch h) (fun i us H2 D ws bt hD iv => iv) (fun l' z => nomatch z) (fun i us H2 hi s iv => hi) (fun i us H2 v H' hi s iv y => ⟨y.2, y.1⟩) (fun us H2 s iv => Nat.le_refl _) (fun i us H2 R hi bt iv lu k => ?_) (fun D4 H2 ws4 us4 hD4 bts d4 lu4 vl4 sm4 => ?_)
      · have e0 : (4 : Int) + (0 + (i : Int)) = ((4 + i : Nat) : Int) := by omega
        refine ⟨_, rfl, _, rfl, _, _, rfl, rfl, _, rfl, c, 4 + i, nm, ys, by rw [e0]; rfl, by omega, hn1.up bt.same, fun v t H3 s3 sm => k v t H3 (.of s3) sm.val ?_⟩
        intro x hx
        rcases List.mem_append.mp hx with hx | hx
        · exact iv x hx
        · rw [List.mem_singleton.mp hx]; exact ⟨sm.doc, sm.size, sm.deep⟩
      have s12 := bts.same
      have bt2 : Bt (some l) H H2 := bt1.trans (.of s12)
      have hl2 := s12 _ _ hl1
      have ht2 := s12 _ _ ht1
      have hn2 := hn1.up s12
      have lw4 := vl4.length
      refine ⟨_, rfl, t0, _, 0, _, rfl, rfl, SqT.of ht2, at0, rfl, _, rfl, iteBF (by decide +kernel) ?_⟩
      simp only [Ak.ok] at hok
      simp only [Ak.deep] at hd
      simp only [Ak.size] at za
      have lxa := Ak.lenL xs
      obtain ⟨o1, o2, o3, o4, o5, o6, o7⟩ := hok
      cases hu0 with
      | @dct a kvs _ _ haG hka ra =>
        cases hz with
        | @lst lz vl0 _ hlG rl =>
          have kl : kvs.length = ks.length := by have := congrArg List.length hka; simpa using this
          have ha1 : Rd H1 a (.dK kvs) := haG.up (hid_sub _)
          have al : a ≠ l := fun z => by
            subst z
            rcases haG with h | ⟨o, h⟩ <;> (unfold hid at h; rw [if_pos rfl] at h; cases h)
          have haN : ∀ {H3 : Hp}, Bt (some l) H1 H3 → Rd H3 a (.dK kvs) := fun bt => ha1.up fun o e => bt.keep a o (fun z => al (Option.some.inj z).symm) e
          have hz1 : Rd H1 lz (.lst vl0) := hlG.up (hid_sub _)
          have zl : lz ≠ l := fun z => by
            subst z
            rcases hlG with h | ⟨o, h⟩ <;> (unfold hid at h; rw [if_pos rfl] at h; cases h)
          have hzN : ∀ {H3 : Hp}, Bt (some l) H1 H3 → Rd H3 lz (.lst vl0) := fun bt => hz1.up fun o e => bt.keep lz o (fun z => zl (Option.some.inj z).symm) e
          have t0l : t0 ≠ l := fun z => by
            have := htG
            unfold hid at this
            rw [if_pos z] at this
            cases this
          have htN : ∀ {H3 : Hp}, Bt (some l) H1 H3 → H3 t0 = some (.tup [.str "table", .ref a, .ref lz, .bl m]) := fun bt => bt.keep _ _ (fun z => t0l (Option.some.inj z).symm) ht1
          have vls : vl0 = ls.map V.str := by
            have gen : ∀ {G : Hp} {vs : List V} {ls : List Str}, ValL G vs (ls.map Pt.str) → vs = ls.map V.str := by
              intro G vs ls
              induction ls generalizing vs with
              | nil => intro h; cases h; rfl
              | cons x r ih =>
                intro h
                cases h with
                | cons h1 h2 => cases h1; rw [List.map_cons, ih h2]
            exact gen rl
          have b12 : Bt (some l) H1 H2 := .of s12
          refine ⟨_, rfl, t0, _, 1, _, rfl, rfl, SqT.of ht2, at1, a, kvs, ks, rfl, haN b12, hka, by omega, fun ps ss H2b nps s2b fps pm st => ?_⟩
          have bb : Bt (some l) H1 H2b := b12.trans (.of s2b)
          have hl2b := s2b _ _ hl2
          obtain ⟨as, eas⟩ := lk_all o1 (ss := ss) fun k hk => pm.mem_iff.mp hk
          have pas := lk_perm o1 o2 pm eas
          have las : as.length = ss.length := by have := congrArg List.length eas; simpa using this.symm
          have lss := pm.length_eq
          have nss : ss.Nodup := pm.nodup_iff.mpr o2
          refine ⟨ps, rfl, ⟨_, SqL.of fps⟩, ?_⟩
          have lps : l ≠ ps := fun z => by rw [← z, hl2] at nps; cases nps
          have psN : ∀ {H3 : Hp}, Bt (some l) H2b H3 → H3 ps = some (.lst (ss.map V.str)) := fun bt => bt.keep _ _ (fun z => lps (Option.some.inj z)) fps
          have li : ∀ i, i < ss.length → (ss.map V.str)[i]? = some (.str (ss.getD i "")) := fun i hi => by
            rw [List.getElem?_map, List.getElem?_eq_getElem hi, List.getD_eq_getElem?_getD, List.getElem?_eq_getElem hi]
            rfl
          refine comp_newP (some l) ss.length (fun i => .str (ss.getD i "")) ss (fun i us H3 => ∃ cs' : List Int, H3 l = some (.lst (cs'.map V.int)) ∧ cs'.length ≤ cs1.length ∧ Pt.docL us ∧ Pt.sizeL us ≤ 10 * Ak.sizeL (as.take i) ∧ Pt.deepL us ≤ Ak.deepL xs + 2 ∧ Pt.wideL us ≤ 61)
            (by omega) (fun D hD => ⟨cs1, by rw [upd_ne (fun z => by rw [← z, hl2b] at hD; cases hD)]; exact hl2b, Nat.le_refl _, trivial, by simp [Pt.sizeL], by simp [Pt.deepL], by simp [Pt.wideL]⟩) (fun i us H3 D e bt hD ⟨cs', h1, h2⟩ => ⟨cs', by rw [upd_ne (fun z => by rw [← z, hl2b] at hD; cases hD)]; exact h1, h2⟩)
            (fun l' z => by cases z; rw [hl2b]; exact fun z => nomatch z) (fun i us H3 hi s iv => ⟨_, _, SqL.of (psN s), li i hi⟩) (fun i us H3 v H' hi s iv y => ?_) (fun us H3 s iv => ⟨_, SqL.of (psN s), by rw [List.length_map]; exact Nat.le_refl _⟩) (fun i us H3 R hi bt ⟨cs', e2, e3, e4, e5, e6, e7⟩ lu k => ?_) (fun D H3 ts ws us hD bt d2 lt lu tt vl ⟨cs', e2, e3, e4, e5, e6, e7⟩ => ?_)
          · obtain ⟨e, y⟩ := y
            have := y _ (SqL.of (psN s))
            rw [li i hi] at this
            exact ⟨(Option.some.inj this).symm, e⟩
          · have hk : ss[i]? = some (ss.getD i "") := by rw [List.getD_eq_getElem?_getD, List.getElem?_eq_getElem hi]; rfl
            obtain ⟨ax, hax⟩ : ∃ ax, as[i]? = some ax := ⟨_, List.getElem?_eq_getElem (by omega)⟩
            have e3' : lk ks xs (ss.getD i "") = some ax := by
              have := congrArg (fun z => z[i]?) eas
              simp only [List.getElem?_map, hk, hax] at this
              exact Option.some.inj this
            have e4' : lk ks (Ak.ptL xs) (ss.getD i "") = some ax.pt := by rw [Ak.ptL_map, lk_map, e3']; rfl
            rcases Val.at_name hka ra (ss.getD i "") with ⟨x, tx, k1, k2, vx⟩ | ⟨_, k2⟩
            · have e5' : tx = ax.pt := Option.some.inj (k2.symm.trans e4')
              subst e5'
              have m1 := pas.mem_iff.mp (List.mem_of_getElem? hax)
              have d1 := Ak.deepL_mem m1
              have z1 := Ak.sizeL_mem m1
              refine ⟨_, rfl, _, rfl, t0, _, 1, _, rfl, rfl, SqT.of (htN (bb.trans bt)), at1, _, rfl, a, x, rfl, .inl ⟨kvs, Sum.inr (ss.getD i ""), haN (bb.trans bt), rfl, k1.symm⟩, _, rfl, _, rfl, x, ax, l, nm, cs', ys, rfl, vx.up (bb.trans bt).hid, Ak.okL_mem o7 _ m1, by omega, by omega, e2, by omega, nl, (hn2.up s2b).but bt nl, fun v t cs2 H4 bt4 hl4 le4 v4 d4' z4 p4 w4 => ⟨two_line, fun pt hpt => k v t H4 pt bt4 v4 ⟨cs2, hl4, by omega, Pt.docL_append e4 ⟨d4', trivial⟩, ?_, ?_, by rw [Pt.wideL_append]; simp only [Pt.wideL]; omega⟩ hpt⟩⟩
              · rw [Pt.sizeL_append, List.take_add_one, hax, Ak.sizeL_append]
                simp only [Pt.sizeL, Option.toList, Ak.sizeL]
                omega
              · rw [Pt.deepL_append]
                simp only [Pt.deepL]
                omega
            · exact absurd (k2.symm.trans e4') (fun z => nomatch z)
          · rw [← las, List.take_length, sizeL_perm pas] at e5
            have lw := vl.length
            have el : ss.length = ws.length := by omega
            refine ⟨D, ts, kvz ss ws, rfl, SqL.of d2, by rw [kvz_len el]; omega, fun j k v e => ?_, by rw [kvz_len el]; omega, fun p5 hp5 => ?_⟩
            · obtain ⟨x, h1, h2, h3⟩ := kvz_get e
              obtain ⟨t, ht⟩ : ∃ t, ts[j]? = some t := ⟨_, List.getElem?_eq_getElem (by have := (List.getElem?_eq_some_iff.mp h1).1; omega)⟩
              obtain ⟨g2, g3⟩ := tt j t v ht h2
              refine ⟨t, ht, ?_⟩
              rw [g2, h3, List.getD_eq_getElem?_getD, h1]
              rfl
            rw [kvz_merge el nss]
            have s4 := Same.new (o := .dK (kvz ss ws)) hp5
            have f5 : upd H3 p5 (.dK (kvz ss ws)) p5 = some (.dK (kvz ss ws)) := upd_same
            have b13 := bb.trans bt
            have b23 : Bt (some l) H2 H3 := (Bt.of s2b).trans bt
            have d43 := b23.keep D4 _ (fun z => by rw [← Option.some.inj z, hl1] at hD4; cases hD4) d4
            have vls3 : ValL (nw H H3) ws us := vl.up (nw_up (fun b h => bt2.dom b (s2b.free h)) fun b e _ h => h)
            have vl43 : ValL (nw H H3) ws4 us4 := vl4.up (nw_up (fun b h => bt1.dom b h) fun b e h1 h2 => b23.keep b e (fun z => by rw [← Option.some.inj z, hl1] at h1; cases h1) h2)
            have H05 : H p5 = none := bt1.dom p5 (b13.dom p5 hp5)
            generalize upd H3 p5 (.dK (kvz ss ws)) = H4 at s4 f5 ⊢
            have b14 : Bt (some l) H1 H4 := b13.trans (.of s4)
            have hl4 := s4 _ _ e2
            refine ⟨_, rfl, D4, _, rfl, .inl (SqL.of (s4 _ _ d43)), _, rfl, t0, _, 3, _, rfl, rfl, SqT.of (htN b14), atI_nat (j := 3) rfl, .inr ⟨m, rfl, _, _, rfl, rfl, .inl ⟨by omega, by omega⟩, ?_⟩⟩
            obtain ⟨N, hN, hN3⟩ : ∃ N : Nat, ((ws4.length : Nat) : Int) * (if m = true then 1 else 0) = (N : Int) ∧ N ≤ ws4.length := by
              cases m with
              | true => exact ⟨ws4.length, by simp, Nat.le_refl _⟩
              | false => exact ⟨0, by simp, Nat.zero_le _⟩
            rw [hN]
            refine ⟨N, rfl, by omega, by omega, for_range (lo := 0) (n := N) (fun i σ Hi => ∃ (ks2 : List Str) (ws2 : List V) (us2 : List Pt) (o6 o7 : Option V), σ = [some (.ref t0), some (.ref l), some (.ref nm), some (.int c), some (.ref D4), some (.ref p5), o6, o7] ∧ (∀ b, b ≠ p5 → Hi b = H4 b) ∧ Hi p5 = some (.dK (kvz ks2 ws2)) ∧ ks2.length = ws2.length ∧ ks2.Nodup ∧ ValL (nw H H3) ws2 us2 ∧
                (∀ k ∈ ks2, nameB k = true) ∧ Pt.docL us2 ∧ (∀ u ∈ us2, u.deep ≤ Ak.deepL xs + 2 ∧ u.wide ≤ 61) ∧ Pt.sizeL us2 ≤ 10 * Ak.sizeL xs + 4 * i ∧ ks2.length ≤ ks.length + i)
              ⟨ss, ws, us, none, none, rfl, fun b _ => rfl, f5, el, nss, vls3, fun k hk => o3 k (pm.mem_iff.mp hk), e4, fun u hu => ⟨Nat.le_trans (Pt.deepL_mem hu) e6, Nat.le_trans (Pt.wideL_mem hu) e7⟩, by omega, by omega⟩ ?_ ?_⟩
            · rintro i σ Hi hi ⟨ks2, ws2, us2, o6, o7, rfl, oth, f5i, l2, nd2, vl2, nb2, dc2, dp2, sz2, ln2⟩
              have ne5 : ∀ {b : Addr} {o : HO}, H1 b = some o → b ≠ p5 := fun h z => by rw [z, b13.dom p5 hp5] at h; cases h
              have nmi : Hi nm = some (.lst (ys.map V.str)) := by
                rw [oth nm (ne5 hn1.at_)]
                exact (hn1.but b14 nl).at_
              have ht4 := htN b14
              have hti : Hi t0 = some (.tup [.str "table", .ref a, .ref lz, .bl m]) := by rw [oth t0 (ne5 ht1)]; exact ht4
              have hai : Rd Hi a (.dK kvs) := by
                rcases ha1 with h | ⟨o, h⟩
                · exact .inl (by rw [oth a (ne5 h)]; exact b14.keep a _ (fun z => al (Option.some.inj z).symm) h)
                · exact .inr ⟨o, by rw [oth a (ne5 h)]; exact b14.keep a _ (fun z => al (Option.some.inj z).symm) h⟩
              have hzi : Rd Hi lz (.lst vl0) := by
                rcases hz1 with h | ⟨o, h⟩
                · exact .inl (by rw [oth lz (ne5 h)]; exact b14.keep lz _ (fun z => zl (Option.some.inj z).symm) h)
                · exact .inr ⟨o, by rw [oth lz (ne5 h)]; exact b14.keep lz _ (fun z => zl (Option.some.inj z).symm) h⟩
              have D45 : D4 ≠ p5 := fun z => by rw [z, hp5] at d43; cases d43
              have d4i : Hi D4 = some (.lst ws4) := by rw [oth D4 D45]; exact s4 _ _ d43
              refine ⟨_, rfl, _, rfl, c, 6, rfl, by decide, fun r6 _ _ => ⟨_, rfl, _, _, rfl, rfl, _, _, rfl, rfl, (by show (0 : Int) < _; decide), ?_⟩⟩
              have m4 := mod_b (r6 + (0 + (i : Int))) (n := 4) (by decide)
              obtain ⟨jj, hjj⟩ : ∃ j : Nat, (r6 + (0 + (i : Int))) % 4 = (j : Int) := ⟨((r6 + (0 + (i : Int))) % 4).toNat, by omega⟩
              obtain ⟨y, hy⟩ : ∃ y, ys[jj]? = some y := ⟨_, List.getElem?_eq_getElem (by rw [hn.len]; omega)⟩
              refine ⟨nm, _, _, _, rfl, rfl, SqL.of nmi, by rw [hjj]; exact atI_nat (by rw [List.getElem?_map, hy]; rfl), ?_⟩
              dsimp only [gName]
              have keep : ∃ (ks2' : List Str) (ws2' : List V) (us2' : List Pt) (o6 o7 : Option V), [some (V.ref t0), some (V.ref l), some (V.ref nm), some (V.int c), some (V.ref D4), some (V.ref p5), some (V.int (0 + (i : Int))), some (V.str y)] = [some (.ref t0), some (.ref l), some (.ref nm), some (.int c), some (.ref D4), some (.ref p5), o6, o7] ∧ (∀ b, b ≠ p5 → Hi b = H4 b) ∧ Hi p5 = some (.dK (kvz ks2' ws2')) ∧ ks2'.length = ws2'.length ∧ ks2'.Nodup ∧ ValL (nw H H3) ws2' us2' ∧
                (∀ k ∈ ks2', nameB k = true) ∧ Pt.docL us2' ∧ (∀ u ∈ us2', u.deep ≤ Ak.deepL xs + 2 ∧ u.wide ≤ 61) ∧ Pt.sizeL us2' ≤ 10 * Ak.sizeL xs + 4 * (i + 1) ∧ ks2'.length ≤ ks.length + (i + 1) := ⟨ks2, ws2, us2, _, _, rfl, oth, f5i, l2, nd2, vl2, nb2, dc2, dp2, by omega, by omega⟩
              refine ⟨_, rfl, _, rfl, t0, _, 1, _, rfl, rfl, SqT.of hti, at1, a, _, rfl, .inl ⟨kvs, Sum.inr y, hai, rfl, rfl⟩, _, rfl, ?_⟩
              refine ite2B (fun _ => ?_) (fun _ => iteF keep)
              refine ⟨_, rfl, _, rfl, t0, _, 2, _, rfl, rfl, SqT.of hti, at2, lz, _, rfl, .inl (.inl hzi), rfl, ?_, _, rfl, ?_⟩
              · rw [vls, List.all_map]
                exact List.all_eq_true.mpr fun _ _ => rfl
              refine ite2B (fun _ => ?_) (fun _ => keep)
              obtain ⟨v, hv⟩ : ∃ v, ws4[i]? = some v := ⟨_, List.getElem?_eq_getElem (by omega)⟩
              obtain ⟨t, ht, vt⟩ := vl43.get hv
              have smt := sm4 t (List.mem_of_getElem? ht)
              have e0 : (0 : Int) + (i : Int) = (i : Int) := by omega
              obtain ⟨ks3, ws3, us3, g1, g2, g3, g4, g5, g6, g7, g8, _⟩ := put_any (y := y) vt l2 nd2 vl2
              refine ⟨_, rfl, _, rfl, D4, _, _, _, rfl, rfl, SqL.of d4i, by rw [e0]; exact atI_nat hv, _, rfl, _, rfl, p5, _, rfl, .inl ⟨_, Sum.inr y, f5i, rfl, small1000 (by rw [kvz_len l2]; omega), rfl⟩, ks3, ws3, us3, _, _, rfl, fun b hb => by rw [upd_ne hb]; exact oth b hb, by rw [upd_same, g1], g2, g3, g4, fun k hk => ?_, Pt.docL_of fun u hu => ?_, fun u hu => ?_, by omega, by omega⟩
              · rcases g5 k hk with h | rfl
                · exact nb2 k h
                · exact hn.nb _ (List.mem_of_getElem? hy)
              · rcases g6 u hu with h | rfl
                · exact Pt.docL_mem dc2 u h
                · exact smt.1
              · rcases g6 u hu with h | rfl
                · exact dp2 u h
                · have := Pt.wide_size _ smt.1
                  exact ⟨by omega, by omega⟩
            · rintro σ Hi ⟨ks2, ws2, us2, o6, o7, rfl, oth, f5i, l2, nd2, vl2, nb2, dc2, dp2, sz2, ln2⟩
              have lp5 : l ≠ p5 := fun z => by rw [← z, e2] at hp5; cases hp5
              have lv2 := vl2.length
              have dp3 := deepL_of fun u hu => (dp2 u hu).1
              have wd3 := wideL_of fun u hu => (dp2 u hu).2
              refine ⟨_, rfl, q _ (.dct ks2 us2) cs' _ ⟨fun b e n h => ?_, fun b h => ?_⟩ (by rw [oth l lp5]; exact hl4) (by omega) (.dct (.inl (by rw [nw_new H05]; exact f5i)) (kvz_keys l2) ?_) ?_ ?_ ?_ ?_⟩
              · rw [oth b (fun z => by rw [z, H05] at h; cases h)]
                exact (bt1.trans b14).keep b e n h
              · by_cases hb : b = p5
                · rw [hb]; exact H05
                · rw [oth b hb] at h
                  exact (bt1.trans b14).dom b h
              · rw [kvz_vals l2]
                exact vl2.up (nw_up (fun b h => h) fun b e h1 h2 => by
                  have hb : b ≠ p5 := fun z => by rw [z, hp5] at h2; cases h2
                  rw [oth b hb]
                  exact s4 _ _ h2)
              · simp only [Pt.doc]
                exact ⟨by omega, nd2, nb2, by omega, dc2⟩
              · simp only [Pt.size, Ak.size]; omega
              · simp only [Pt.deep, Ak.deep]; omega
              · simp only [Pt.wide]; omega
theorem all_Fit {f : Addr} {fd : FuncData} (F : Fun K "_law_fit" "_law_fit" sFit f fd) (T : Txt mg) (b : Binds K fd ["_law_asks_here", "_law_cells", "_law_names_here"] []) (m : mg "_law_fit" = some (.ref f)) (DMix : Df P w K mg base "_law_mix" ["_law_cell_here", "_law_k"] 1 spMix) (DDoc : Df P w K mg base "_law_doc" ["_law_cell_here", "_law_k", "_law_names_here"] 2 spDocV) (DCopy : Df P w K mg base "_law_copy" ["_law_thing"] 6 (spCopyV 6)) : ∀ n : Nat, FnOk P w K mg base CX0 n f fd ["_law_asks_here", "_law_cells", "_law_names_here"] (spFit n)
  | 0 => none0 (fun vs H Q E h => by obtain ⟨_, _, _, _, _, _, _, _, _, h0, _⟩ := h; omega)
  | n + 1 => ok_Fit F T DMix DDoc DCopy (Df.mk' F b m (all_Fit F T b m DMix DDoc DCopy n))
end
end K41

set_option Elab.async false
set_option linter.all false
set_option maxRecDepth 100000
set_option maxHeartbeats 40000000
namespace K41
open PySem L2
section
variable {P : Program} {w : World} {K : PySem.W.Frag} {mg : Str → Option Value} {base : Heap}
theorem scBent : FnScope ["_law_doc_here", "_law_cell_here", "_law_deep", "_law_names_here", "_law_inner", "_law_way", "_law_bent_here", "_law_step"] ["_law_doc_here", "_law_cell_here", "_law_deep", "_law_names_here"] (defScope sBent) := ⟨rfl, rfl, rfl, by decide +kernel, rfl, by decide +kernel, by decide +kernel⟩
theorem ok_Bent {n : Nat} {f : Addr} {fd : FuncData} (F : Fun K "_law_bent" "_law_bent" sBent f fd) (T : Txt mg) (DMix : Df P w K mg base "_law_mix" ["_law_cell_here", "_law_k"] 1 spMix) (DDoc : Df P w K mg base "_law_doc" ["_law_cell_here", "_law_k", "_law_names_here"] 2 spDocV) (DBent : Df P w K mg base "_law_bent" ["_law_doc_here", "_law_cell_here", "_law_deep", "_law_names_here"] n (spBent n)) : FnOk P w K mg base CX0 (n + 1) f fd ["_law_doc_here", "_law_cell_here", "_law_deep", "_law_names_here"] (spBent (n + 1)) := by
  obtain ⟨fMix, dMix, kMix, bMix, mMix, GMix⟩ := DMix.ex
  obtain ⟨fDoc, dDoc, kDoc, bDoc, mDoc, GDoc⟩ := DDoc.ex
  obtain ⟨fBent, dBent, kBent, bBent, mBent, GBent⟩ := DBent.ex
  refine F.ok scBent (fun vs H Q E h => ?_) (fun cdv A outer s H vs Q E hr h => ?_)
  · obtain ⟨G, v, t, c, d, nm, ys, B, rfl, sG, hv, dt, zt, dp, h12, h5, hn, hB, hB2, wt, q⟩ := h
    rfl
  · obtain ⟨G, v, t, c, d, nm, ys, B, rfl, sG, hv, dt, zt, dp, h12, h5, hn, hB, hB2, wt, q⟩ := h
    have nd := scBent.nd
    have hu := hu_of hr
    have hrMix : Room 1 _ := hr.mono (by first | decide | omega)
    have hrDoc : Room 2 _ := hr.mono (by first | decide | omega)
    have hrBent : Room n _ := hr.mono (by first | decide | omega)
    refine ⟨_, (pss_cons (ps_set (i := 4) nd rfl (Or.inl rfl) (pe_lst pa_nil))
      (pss_cons (ps_if (pt_val (pe_callB call_isiN rfl T.isinstance b_isinstance (pa_cons (pv 0) (pa_cons (pe_bltn (v := .ty "list") rfl T.list b_list rfl) pa_nil)))) (pss_one (ps_set (i := 4) nd rfl (Or.inl rfl) (pe_callTy (call_list_rng rfl) rfl T.list b_list (pa_cons (pe_range rfl T.range (pa_cons (pe_callB call_len_seq rfl T.len PySem.boot_len (pa_cons (pv 0) pa_nil)) pa_nil)) pa_nil)))) pss_nil)
      (pss_cons (ps_if (pt_val (pe_callB call_isiN rfl T.isinstance b_isinstance (pa_cons (pv 0) (pa_cons (pe_bltn (v := .ty "dict") rfl T.dict b_dict rfl) pa_nil)))) (pss_one (ps_set (i := 4) nd rfl (Or.inl rfl) (pe_callB (call_sortedD rfl) rfl T.sorted b_sorted (pa_cons (pv 0) pa_nil)))) pss_nil)
      (pss_cons (ps_set (i := 5) nd rfl (Or.inl rfl) (pe_call GMix hrMix rfl mMix kMix bMix .nil pass0 (pa_cons (pv 1) (pa_cons (pv 2) pa_nil))))
      (pss_cons (ps_if (PW.pt (pw_or (pt_cmpR (op_eqE (Room.units0 hr)) (pv 4) (pe_lst pa_nil) (nomark _)) (pw_or (pt_cmpR op_gt (pv 2) pe_int (nomark _)) (pw_or1 (pt_cmpR op_eq (pe_op op_mod (pv 5) pe_int) pe_int (nomark _)))))) (pss_cons (ps_if (PW.pt (pw_and (pt_val (pe_callB call_isiN rfl T.isinstance b_isinstance (pa_cons (pv 0) (pa_cons (pe_bltn (v := .ty "list") rfl T.list b_list rfl) pa_nil)))) (pw_and1 (pt_cmpR op_lt (pe_op op_mod (pe_op op_fdiv (pv 5) pe_int) pe_int) pe_int (nomark _))))) (pss_one (ps_ret (pe_ix (r := rIxL K) ix_list (pe_lst (pa_cons (pe_op op_catR (pv 0) (pe_lst (pa_cons (pe_call GDoc hrDoc rfl mDoc kDoc bDoc .nil pass0 (pa_cons (pv 1) (pa_cons pe_int (pa_cons (pv 3) pa_nil)))) pa_nil))) (pa_cons (pe_slice (r := rSlL K) sl_list (pv 0) po_none (po_some (pe_un un_neg pe_int))) pa_nil))) (pe_op op_mod (pe_op op_fdiv (pv 5) pe_int) pe_int) (fun _ _ => rfl)))) pss_nil)
      (pss_cons (ps_if (PW.pt (pw_and (pt_val (pe_callB call_isiN rfl T.isinstance b_isinstance (pa_cons (pv 0) (pa_cons (pe_bltn (v := .ty "dict") rfl T.dict b_dict rfl) pa_nil)))) (pw_and1 (pt_cmpR op_lt (pe_op op_mod (pe_op op_fdiv (pv 5) pe_int) pe_int) pe_int (nomark _))))) (pss_cons (ps_set (i := 6) nd rfl (Or.inl rfl) (pe_callTy call_dict_copy rfl T.dict b_dict (pa_cons (pv 0) pa_nil)))
      (pss_cons (ps_dput hu (pv 6) (pe_ix (r := rIxL K) ix_list (pv 3) (pe_op op_mod (pe_op op_fdiv (pv 5) pe_int) pe_int) (fun _ _ => rfl)) (pe_call GDoc hrDoc rfl mDoc kDoc bDoc .nil pass0 (pa_cons (pv 1) (pa_cons pe_int (pa_cons (pv 3) pa_nil)))) rfl)
      (pss_cons (ps_if (PW.pt (pw_and (pt_cmpR op_eq (pe_op op_mod (pe_op op_fdiv (pv 5) pe_int) pe_int) pe_int (nomark _)) (pw_and1 (pt_cmpR (op_neE (Room.units0 hr)) (pv 4) (pe_lst pa_nil) (nomark _))))) (pss_one (ps_expr (pe_alt (pe_bm PySem.F.plainAttrs_list PySem.F.slot_list_pop PySem.F.type_list_pop mt_popAt (pv 6) (pa_cons (pe_ix (r := rIxL K) ix_list (pv 4) (pe_op op_mod (pe_op op_fdiv (pv 5) pe_int) (pe_callB call_len_seq rfl T.len PySem.boot_len (pa_cons (pv 4) pa_nil))) (fun _ _ => rfl)) pa_nil)) (pe_dpop1 (pv 6) (pe_ix (r := rIxL K) ix_list (pv 4) (pe_op op_mod (pe_op op_fdiv (pv 5) pe_int) (pe_callB call_len_seq rfl T.len PySem.boot_len (pa_cons (pv 4) pa_nil))) (fun _ _ => rfl)) ⟨rfl, rfl, rfl, rfl⟩)))) pss_nil)
      (pss_one (ps_ret (pv 6)))))) pss_nil)
      (pss_one (ps_ret (pe_call GDoc hrDoc rfl mDoc kDoc bDoc .nil pass0 (pa_cons (pv 1) (pa_cons pe_int (pa_cons (pv 3) pa_nil)))))))) pss_nil)
      (pss_cons (ps_set (i := 6) nd rfl (Or.inl rfl) (pe_alt (pe_callTy call_list_of rfl T.list b_list (pa_cons (pv 0) pa_nil)) (pe_callTy (call_list_dict rfl) rfl T.list b_list (pa_cons (pv 0) pa_nil))))
      (pss_cons (ps_if (pt_val (pe_callB call_isiN rfl T.isinstance b_isinstance (pa_cons (pv 0) (pa_cons (pe_bltn (v := .ty "dict") rfl T.dict b_dict rfl) pa_nil)))) (pss_one (ps_set (i := 6) nd rfl (Or.inl rfl) (pe_callTy call_dict_copy rfl T.dict b_dict (pa_cons (pv 0) pa_nil)))) pss_nil)
      (pss_cons (ps_set (i := 7) nd rfl (Or.inl rfl) (pe_ix (r := rIxL K) ix_list (pv 4) (pe_op op_mod (pe_op op_fdiv (pv 5) pe_int) (pe_callB call_len_seq rfl T.len PySem.boot_len (pa_cons (pv 4) pa_nil))) (fun _ _ => rfl)))
      (pss_cons (ps_alt (ps_asg (pe_call GBent hrBent rfl mBent kBent bBent .nil pass0 (pa_cons (pe_alt (pe_ix (r := rIxL K) ix_list (pv 0) (pv 7) (fun _ _ => rfl)) (pe_dget hu (pv 0) (pv 7) (fun _ _ => rfl))) (pa_cons (pv 1) (pa_cons (pe_op op_add (pv 2) pe_int) (pa_cons (pv 3) pa_nil))))) (pg_sub (pv 6) (pv 7) set_list)) (ps_dput hu (pv 6) (pv 7) (pe_call GBent hrBent rfl mBent kBent bBent .nil pass0 (pa_cons (pe_alt (pe_ix (r := rIxL K) ix_list (pv 0) (pv 7) (fun _ _ => rfl)) (pe_dget hu (pv 0) (pv 7) (fun _ _ => rfl))) (pa_cons (pv 1) (pa_cons (pe_op op_add (pv 2) pe_int) (pa_cons (pv 3) pa_nil))))) rfl))
      (pss_one (ps_ret (pv 6)))))))))))), ?_⟩
    have hvH := hv.up sG
    have dq : ∀ {H5 : Hp}, Same H H5 → ∀ v t' H6, Same H5 H6 → Small H5 H6 v t' → Q v H6 := fun {H5} s5 v t' H6 s6 sm => q v t' H6 (s5.trans s6) (sm.val.up (nw_ov sG (fun b h => s5.free h) fun b o _ h => h)) sm.doc (by have := sm.size; have := Pt.size_pos t; omega) (by have := sm.deep; have := Pt.deep_pos t; omega) (by have := Pt.wide_size t' sm.doc; have := sm.size; omega)
    refine ⟨Nat.zero_le _, fun p0 hp0 => ?_⟩
    have s0 := Same.new (o := .lst []) hp0
    have f0 : upd H p0 (.lst []) p0 = some (.lst []) := upd_same
    generalize upd H p0 (.lst []) = H0 at s0 f0 ⊢
    dsimp only [gName]
    refine seq_st (t := tIfS _ _ _) (fun σ' H1 => ∃ (pi : Addr) (l : List V), σ' = [some v, some (.int c), some (.int (d : Int)), some (.ref nm), some (.ref pi), none, none, none] ∧ Same H H1 ∧ H1 pi = some (.lst l) ∧ ((∀ ks xs, t ≠ .dct ks xs) → Steps t l)) (fun σ' H1 ⟨pi0, l0, es, s1, f1, st1⟩ => ?_) (fun key => ?_)
    rotate_left
    · refine ⟨_, rfl, _, "list", t.tyS, rfl, rfl, (hvH.up s0).ty, _, rfl, ?_⟩
      cases hv with
      | int i => exact iteF (key _ _ ⟨p0, [], rfl, s0, f0, fun _ => rfl⟩)
      | str i => exact iteF (key _ _ ⟨p0, [], rfl, s0, f0, fun _ => rfl⟩)
      | bl b => simp [Pt.doc] at dt
      | tup _ _ => simp [Pt.doc] at dt
      | dct _ _ _ => exact iteF (key _ _ ⟨p0, [], rfl, s0, f0, fun z => absurd rfl (z _ _)⟩)
      | @lst a vs ts ha ra =>
        have lv := ra.length
        have lt := Pt.lenL ts
        simp only [Pt.size] at zt
        refine iteT ⟨_, rfl, a, _, rfl, .inl (.inl ((ha.up (sG _)).up (s0 _))), _, rfl, fun r hr => ⟨r, vs.length, rfl, upd_same, by omega, fun pl hpl => ?_⟩⟩
        have sr := (s0.trans (Same.new (o := .rng 0 (vs.length : Int)) hr)).trans (Same.new (o := .lst ((List.range vs.length).map fun (i : Nat) => V.int (i : Int))) hpl)
        exact key _ _ ⟨pl, _, rfl, sr, upd_same, fun _ => by rw [lv]; exact rfl⟩
    subst es
    refine seq_st (t := tIfS _ _ _) (fun σ' H1 => ∃ (pi : Addr) (l : List V), σ' = [some v, some (.int c), some (.int (d : Int)), some (.ref nm), some (.ref pi), none, none, none] ∧ Same H H1 ∧ H1 pi = some (.lst l) ∧ Steps t l) (fun σ' H1 ⟨pi, l, es, s1, f1, st⟩ => ?_) (fun key => ?_)
    rotate_left
    · refine ⟨_, rfl, _, "dict", t.tyS, rfl, rfl, (hvH.up s1).ty, _, rfl, ?_⟩
      cases hv with
      | int i => exact iteF (key _ _ ⟨pi0, l0, rfl, s1, f1, st1 fun _ _ z => nomatch z⟩)
      | str i => exact iteF (key _ _ ⟨pi0, l0, rfl, s1, f1, st1 fun _ _ z => nomatch z⟩)
      | bl b => simp [Pt.doc] at dt
      | tup _ _ => simp [Pt.doc] at dt
      | lst _ _ => exact iteF (key _ _ ⟨pi0, l0, rfl, s1, f1, st1 fun _ _ z => nomatch z⟩)
      | @dct a kvs ks ts ha hka ra =>
        have kl : kvs.length = ks.length := by have := congrArg List.length hka; simpa using this
        simp only [Pt.doc] at dt
        refine iteT ⟨_, rfl, a, kvs, ks, rfl, (ha.up (sG _)).up (s1 _), hka, by omega, fun ps ss H2 nps s2 fps pm so => ?_⟩
        exact key _ _ ⟨ps, _, rfl, s1.trans s2, fps, ⟨ss, rfl, pm, so⟩⟩
    subst es
    clear f0 s0 st1
    refine ⟨_, rfl, _, rfl, c, d, rfl, by omega, fun wy _ _ => ?_⟩
    dsimp only [gName]
    have hn1 := hn.up s1
    refine seq_if (t := tIfS _ _ _) (fun H5 => Same H1 H5 ∧ l ≠ [] ∧ d ≤ 4) (fun H5 ⟨s5, lne, d4⟩ => ?_) (fun key2 => ?_)
    rotate_left
    · refine ifS_key (fun H5 => Same H1 H5) (fun H5 s5 => ?_) (fun key1 => ?_)
      rotate_left
      · refine ⟨_, rfl, Nat.zero_le _, fun pe hpe => ⟨pi, pe, _, rfl, rfl, SqL.of ((Same.new hpe) _ _ f1), SqL.of upd_same, _, rfl, ?_⟩⟩
        have se := Same.new (o := .lst []) hpe
        refine ite2B (fun _ => iteT (key1 _ se)) (fun h1 => ?_)
        have lne : l ≠ [] := fun z => by rw [z] at h1; cases h1
        refine ⟨_, rfl, _, _, rfl, rfl, _, rfl, ite2B (fun _ => iteT (key1 _ se)) (fun h2 => ?_)⟩
        have h2 := of_decide_eq_false h2
        exact ⟨_, rfl, _, _, rfl, rfl, (by show (0 : Int) < _; decide), rfl, _, rfl, ite2B (fun _ => key1 _ se) (fun _ => key2 _ ⟨se, lne, by omega⟩)⟩
      · have s15 := s1.trans s5
        have hn5 := hn1.up s5
        refine ⟨_, rfl, _, "list", t.tyS, rfl, rfl, (hvH.up s15).ty, _, rfl, ?_⟩
        cases hv with
        | int i => exact iteF (iteF ⟨_, rfl, _, "dict", "int", rfl, rfl, .int i, _, rfl, iteF (iteF ⟨_, rfl, _, rfl, c, 6, nm, ys, rfl, by decide, hn5, dq s15⟩)⟩)
        | str i => exact iteF (iteF ⟨_, rfl, _, "dict", "str", rfl, rfl, .str i, _, rfl, iteF (iteF ⟨_, rfl, _, rfl, c, 6, nm, ys, rfl, by decide, hn5, dq s15⟩)⟩)
        | bl b => simp [Pt.doc] at dt
        | tup _ _ => simp [Pt.doc] at dt
        | @lst a vs ts ha ra =>
          have ha5 := (ha.up (sG _)).up (s15 _)
          have lv := ra.length
          have lt := Pt.lenL ts
          simp only [Pt.size] at zt q
          simp only [Pt.doc] at dt
          simp only [Pt.deep] at q
          simp only [Pt.wide] at wt
          refine iteT ⟨_, rfl, _, _, rfl, rfl, ⟨by decide, by decide⟩, _, _, rfl, rfl, (by show (0 : Int) < _; decide), _, _, rfl, rfl, _, rfl, ite2B (fun h2 => ?_) (fun _ => ?_)⟩
          · have h2 := of_decide_eq_true h2
            have m3 := mod_b (wy / 3) (n := 3) (by decide)
            refine ⟨_, rfl, _, rfl, _, rfl, c, 6, nm, ys, rfl, by decide, hn5, fun v1 t1 H6 s6 sm => ⟨one_line, fun p1 hp1 => ?_⟩⟩
            have f1' : upd H6 p1 (.lst [v1]) p1 = some (.lst [v1]) := upd_same
            have s7 := Same.new (o := .lst [v1]) hp1
            generalize upd H6 p1 (.lst [v1]) = H7 at f1' s7 ⊢
            have s17 := (s15.trans s6).trans s7
            refine ⟨a, p1, _, _, rfl, rfl, (ha.up (sG _)).up (s17 _), .inl f1', le_line (by simp only [List.length_cons, List.length_nil]; omega), fun p2 hp2 => ?_⟩
            have f2' : upd H7 p2 (.lst (vs ++ [v1])) p2 = some (.lst (vs ++ [v1])) := upd_same
            have s8 := Same.new (o := .lst (vs ++ [v1])) hp2
            generalize upd H7 p2 (.lst (vs ++ [v1])) = H8 at f2' s8 ⊢
            have s18 := s17.trans s8
            refine ⟨_, rfl, _, rfl, _, rfl, a, _, rfl, .inl ((ha.up (sG _)).up (s18 _)), fun p3 hp3 => ?_⟩
            obtain ⟨kc, hkc⟩ := cutV_less vs
            rw [hkc]
            have f3' : upd H8 p3 (.lst (vs.take kc)) p3 = some (.lst (vs.take kc)) := upd_same
            have s9 := Same.new (o := .lst (vs.take kc)) hp3
            generalize upd H8 p3 (.lst (vs.take kc)) = H9 at f3' s9 ⊢
            refine ⟨two_line, fun p4 hp4 => ?_⟩
            have f4' : upd H9 p4 (.lst [.ref p2, .ref p3]) p4 = some (.lst [.ref p2, .ref p3]) := upd_same
            have sA := Same.new (o := .lst [.ref p2, .ref p3]) hp4
            generalize upd H9 p4 (.lst [.ref p2, .ref p3]) = HA at f4' sA ⊢
            obtain ⟨v2, hv2, mv2⟩ := pick_mem (xs := [V.ref p2, V.ref p3]) (i := wy / 3 % 3) m3.1 (by simp only [List.length_cons, List.length_nil]; omega)
            refine ⟨_, rfl, _, _, rfl, rfl, ⟨by decide, by decide⟩, _, _, rfl, rfl, (by show (0 : Int) < _; decide), p4, _, _, _, rfl, rfl, SqL.of f4', hv2, ?_⟩
            have s1A := (s18.trans s9).trans sA
            have ov1 : Val (ov G H HA) v1 t1 := sm.val.up (nw_ov sG (fun b h => s15.free h) fun b o _ h => ((s7.trans s8).trans s9).trans sA b o h)
            have raO : ValL (ov G H HA) vs ts := ra.up ov_old
            simp only [List.mem_cons, List.not_mem_nil, or_false] at mv2
            rcases mv2 with rfl | rfl
            · refine q _ (.lst (ts ++ [t1])) HA s1A (.lst (.inl (by rw [ov_new sG (s17.free hp2)]; exact (s9.trans sA) _ _ f2')) (raO.snoc ov1)) (Pt.docL_append dt ⟨sm.doc, trivial⟩) ?_ ?_ ?_
              · have := sm.size
                simp only [Pt.size]; rw [Pt.sizeL_append]; simp only [Pt.sizeL]; omega
              · have := sm.deep
                simp only [Pt.deep]; rw [Pt.deepL_append]; simp only [Pt.deepL]; omega
              · have := Pt.wide_size t1 sm.doc
                have := sm.size
                simp only [Pt.wide]; rw [Pt.wideL_append]; simp only [Pt.wideL]; omega
            · refine q _ (.lst (ts.take kc)) HA s1A (.lst (.inl (by rw [ov_new sG (s18.free hp3)]; exact sA _ _ f3')) (raO.takeN kc)) (Pt.docL_of fun x hx => Pt.docL_mem dt x (List.mem_of_mem_take hx)) ?_ ?_ ?_
              · have := sizeL_take ts kc
                simp only [Pt.size]; omega
              · have := deepL_of (us := ts.take kc) (n := Pt.deepL ts) fun u hu => Pt.deepL_mem (List.mem_of_mem_take hu)
                simp only [Pt.deep]; omega
              · have := wideL_of (us := ts.take kc) (n := Pt.wideL ts) fun u hu => Pt.wideL_mem (List.mem_of_mem_take hu)
                simp only [Pt.wide]; omega
          · exact ⟨_, rfl, _, "dict", "list", rfl, rfl, .lst ha5, _, rfl, iteF (iteF ⟨_, rfl, _, rfl, c, 6, nm, ys, rfl, by decide, hn5, dq s15⟩)⟩
        | @dct a kvs ks ts ha hka ra =>
          have ha5 := (ha.up (sG _)).up (s15 _)
          refine iteF (iteF ⟨_, rfl, _, "dict", "dict", rfl, rfl, .dK ha5, _, rfl, iteT ⟨_, rfl, _, _, rfl, rfl, ⟨by decide, by decide⟩, _, _, rfl, rfl, (by show (0 : Int) < _; decide), _, _, rfl, rfl, _, rfl, ite2B (fun h2 => ?_) (fun _ => ⟨_, rfl, _, rfl, c, 6, nm, ys, rfl, by decide, hn5, dq s15⟩)⟩⟩)
          have kl : kvs.length = ks.length := by have := congrArg List.length hka; simpa using this
          have ek := kvz_of hka
          obtain ⟨ws, hws⟩ : ∃ ws, ws = kvs.map (·.2) := ⟨_, rfl⟩
          rw [← hws] at ra ek
          have lw := ra.length
          simp only [Pt.size] at zt q
          simp only [Pt.doc] at dt
          simp only [Pt.deep] at q
          obtain ⟨t1', t2', t3', t4', t5'⟩ := dt
          have el : ks.length = ws.length := by omega
          refine ⟨_, rfl, a, kvs, rfl, ha5, fun p6 hp6 => ?_⟩
          have f6 : upd H5 p6 (.dK kvs) p6 = some (.dK kvs) := upd_same
          have s6 := Same.new (o := .dK kvs) hp6
          generalize upd H5 p6 (.dK kvs) = H6 at f6 s6 ⊢
          have n6 := s15.free hp6
          refine ⟨_, rfl, _, rfl, c, 6, nm, ys, rfl, by decide, hn5.up s6, fun v1 t1 H7 s7 sm => ?_⟩
          have m4 := mod_b (wy / 9) (n := 4) (by decide)
          obtain ⟨jj, hjj⟩ : ∃ j : Nat, wy / 9 % 4 = (j : Int) := ⟨(wy / 9 % 4).toNat, by omega⟩
          obtain ⟨y, hy⟩ : ∃ y, ys[jj]? = some y := ⟨_, List.getElem?_eq_getElem (by rw [hn.len]; omega)⟩
          refine ⟨_, rfl, _, rfl, _, rfl, _, _, rfl, rfl, ⟨by decide, by decide⟩, _, _, rfl, rfl, (by show (0 : Int) < _; decide), nm, _, _, _, rfl, rfl, SqL.of ((hn5.up s6).up s7).at_, by rw [hjj]; exact atI_nat (by rw [List.getElem?_map, hy]; rfl), p6, _, rfl, .inl ⟨kvs, Sum.inr y, s7 _ _ f6, rfl, small1000 (by omega), rfl⟩, ?_⟩
          have s17 := (s15.trans s6).trans s7
          simp only [Pt.wide] at wt
          have s06 := s15.trans s6
          have sG6 : Same G H6 := sG.trans s06
          have raO : ValL (ov G H6 H7) ws ts := ra.up ov_old
          have v1O : Val (ov G H6 H7) v1 t1 := sm.val.up (nw_ov sG6 (fun b h => h) fun b o _ h => h)
          have w1 := Pt.wide_size t1 sm.doc
          have z1 := sm.size
          have x1 := sm.deep
          rw [ek]
          obtain ⟨ks3, ws3, us3, g1, g2, g3, g4, g5, g6, g7, g8, g9⟩ := put_any (y := y) v1O el t2' raO
          rw [g1]
          have nb3 : ∀ k ∈ ks3, nameB k = true := fun k hk => by
            rcases g5 k hk with h | rfl
            · exact t3' k h
            · exact hn.nb _ (List.mem_of_getElem? hy)
          have us3d : ∀ u ∈ us3, u.doc ∧ u.deep ≤ Pt.deepL ts + 2 ∧ u.wide ≤ B := fun u hu => by
            rcases g6 u hu with h | rfl
            · exact ⟨Pt.docL_mem t5' u h, by have := Pt.deepL_mem h; omega, by have := Pt.wideL_mem h; omega⟩
            · exact ⟨sm.doc, by omega, by omega⟩
          have fin : ∀ (ks2 : List Str) (ws2 : List V) (us2 : List Pt) (H8 : Hp), Same H H8 → (∀ b o, b ≠ p6 → H7 b = some o → H8 b = some o) → H8 p6 = some (.dK (kvz ks2 ws2)) → ks2.length = ws2.length → ks2.Nodup → ValL (ov G H6 H7) ws2 us2 → (∀ k ∈ ks2, k ∈ ks3) → (∀ u ∈ us2, u ∈ us3) → Pt.sizeL us2 ≤ Pt.sizeL us3 → ks2.length ≤ ks3.length → Q (.ref p6) H8 := fun ks2 ws2 us2 H8 s8 k8 f8 e1 e2 e3 e4 e5 e6 e7 => by
            have lu := e3.length
            have dd := deepL_of (us := us2) (n := Pt.deepL ts + 2) fun u hu => (us3d u (e5 u hu)).2.1
            have dw := wideL_of (us := us2) (n := B) fun u hu => (us3d u (e5 u hu)).2.2
            refine q _ (.dct ks2 us2) H8 s8 (.dct (.inl (by rw [ov_new sG n6]; exact f8)) (kvz_keys e1) (by rw [kvz_vals e1]; exact e3.up (ov_up sG (fun b h => s06.free h) fun b o h1 h2 => k8 b o (fun z => by rw [z, f6] at h1; cases h1) h2))) ?_ ?_ ?_ ?_
            · simp only [Pt.doc]
              exact ⟨by omega, e2, fun k hk => nb3 k (e4 k hk), by omega, Pt.docL_of fun u hu => (us3d u (e5 u hu)).1⟩
            · simp only [Pt.size]; omega
            · simp only [Pt.deep]; omega
            · simp only [Pt.wide]; omega
          have s08 : Same H (upd H7 p6 (.dK (kvz ks3 ws3))) := s17.put n6
          have k08 : ∀ b o, b ≠ p6 → H7 b = some o → upd H7 p6 (.dK (kvz ks3 ws3)) b = some o := fun b o hb h => by rw [upd_ne hb]; exact h
          have f8 : upd H7 p6 (.dK (kvz ks3 ws3)) p6 = some (.dK (kvz ks3 ws3)) := upd_same
          have pi6 : pi ≠ p6 := fun z => by have := s5 _ _ f1; rw [z, hp6] at this; cases this
          have fpi : upd H7 p6 (.dK (kvz ks3 ws3)) pi = some (.lst l) := by rw [upd_ne pi6]; exact s7 _ _ (s6 _ _ (s5 _ _ f1))
          generalize upd H7 p6 (.dK (kvz ks3 ws3)) = H8 at s08 k08 f8 fpi ⊢
          have ret : ∀ H9, Same H8 H9 → Q (.ref p6) H9 := fun H9 s9 => fin ks3 ws3 us3 H9 (s08.trans s9) (fun b o hb h => s9 _ _ (k08 b o hb h)) (s9 _ _ f8) g2 g3 g4 (fun k h => h) (fun u h => h) (Nat.le_refl _) (Nat.le_refl _)
          dsimp only
          refine ⟨_, rfl, _, _, rfl, rfl, ⟨by decide, by decide⟩, _, _, rfl, rfl, (by show (0 : Int) < _; decide), rfl, _, rfl, ite2B (fun _ => ?_) (fun _ => iteF ⟨_, rfl, ret H8 (Same.refl _)⟩)⟩
          refine ⟨_, rfl, Nat.zero_le _, fun pe hpe => ⟨pi, pe, _, rfl, rfl, SqL.of ((Same.new hpe) _ _ fpi), SqL.of upd_same, _, rfl, ?_⟩⟩
          have se := Same.new (o := .lst []) hpe
          generalize upd H8 pe (.lst []) = H9 at se ⊢
          obtain ⟨ss, rfl, pm, so⟩ := st
          have fpi9 := se _ _ fpi
          refine ite2B (fun h3 => ?_) (fun _ => ⟨_, rfl, ret H9 se⟩)
          have sne : ss ≠ [] := fun z => by subst z; cases h3
          have spos : 0 < ss.length := List.length_pos_iff.mpr sne
          have ms : 0 ≤ wy / 9 % (ss.length : Int) ∧ wy / 9 % (ss.length : Int) < (ss.length : Int) := ⟨Int.emod_nonneg _ (by omega), Int.emod_lt_of_pos _ (by omega)⟩
          obtain ⟨j2, hj2⟩ : ∃ j : Nat, wy / 9 % (ss.length : Int) = (j : Int) := ⟨(wy / 9 % (ss.length : Int)).toNat, by omega⟩
          obtain ⟨y2, hy2⟩ : ∃ y, ss[j2]? = some y := ⟨_, List.getElem?_eq_getElem (by omega)⟩
          have y2k : y2 ∈ ks3 := g9 y2 (pm.mem_iff.mp (List.mem_of_getElem? hy2))
          obtain ⟨x2, hx2⟩ : ∃ x, valV (kvz ks3 ws3) (Sum.inr y2 : Key) = some x := by
            have := is_in (kvz_keys g2) y2
            rw [decide_eq_true y2k] at this
            cases e : valV (kvz ks3 ws3) (Sum.inr y2 : Key) with
            | none => rw [e] at this; cases this
            | some x => exact ⟨x, rfl⟩
          have f9 := se _ _ f8
          obtain ⟨ks4, ws4, us4, i1, i2, i3, i4, i5, i6, i7, i8⟩ := drop_any (y := y2) g2 g3 g4
          refine .inr ⟨_, rfl, p6, rfl, .inl ⟨_, .inl f9⟩, _, rfl, _, rfl, _, _, rfl, rfl, ⟨by decide, by decide⟩, _, rfl, pi, _, rfl, .inl (SqL.of fpi9), _, _, rfl, rfl, (by show (0 : Int) < _; rw [List.length_map]; omega), pi, _, _, _, rfl, rfl, SqL.of fpi9, by rw [List.length_map, hj2]; exact atI_nat (by rw [List.getElem?_map, hy2]; rfl), kvz ks3 ws3, Sum.inr y2, x2, f9, rfl, hx2, _, rfl, ?_⟩
          rw [i1]
          exact fin ks4 ws4 us4 _ ((s08.trans se).put n6) (fun b o hb h => by rw [upd_ne hb]; exact se _ _ (k08 b o hb h)) upd_same i2 i3 i4 i5 i6 i7 i8
    · have s15 := s1.trans s5
      have hn5 := hn1.up s5
      have f5 := s5 _ _ f1
      have lpos : 0 < l.length := List.length_pos_iff.mpr lne
      have ms : 0 ≤ wy / 3 % (l.length : Int) ∧ wy / 3 % (l.length : Int) < (l.length : Int) := ⟨Int.emod_nonneg _ (by omega), Int.emod_lt_of_pos _ (by omega)⟩
      obtain ⟨jj, hjj⟩ : ∃ j : Nat, wy / 3 % (l.length : Int) = (j : Int) := ⟨(wy / 3 % (l.length : Int)).toNat, by omega⟩
      have jl : jj < l.length := by omega
      have ed : ((d : Int) + 1) = ((d + 1 : Nat) : Int) := by omega
      cases hv with
      | int i => exact absurd (show l = [] from st) lne
      | str i => exact absurd (show l = [] from st) lne
      | bl b => simp [Pt.doc] at dt
      | tup _ _ => simp [Pt.doc] at dt
      | @lst a vs ts ha ra =>
        have el : l = _ := st
        have lv := ra.length
        have lt := Pt.lenL ts
        have ll : l.length = ts.length := by rw [el]; simp
        simp only [Pt.size] at zt q
        simp only [Pt.doc] at dt
        simp only [Pt.deep] at dp q
        simp only [Pt.wide] at wt
        refine .inl ⟨_, rfl, a, _, rfl, .inl (.inl ((ha.up (sG _)).up (s15 _))), fun p6 hp6 => ?_⟩
        have f6 : upd H5 p6 (.lst vs) p6 = some (.lst vs) := upd_same
        have s6 := Same.new (o := .lst vs) hp6
        generalize upd H5 p6 (.lst vs) = H6 at f6 s6 ⊢
        have s06 := s15.trans s6
        have n6 := s15.free hp6
        have ha6 := (ha.up (sG _)).up (s06 _)
        have f56 := s6 _ _ f5
        refine ⟨_, rfl, _, "dict", "list", rfl, rfl, .lst ha6, _, rfl, iteF ?_⟩
        have hl : l[jj]? = some (.int (jj : Int)) := by
          rw [el, List.getElem?_map, List.getElem?_range (by omega)]
          rfl
        refine ⟨_, rfl, _, rfl, _, _, rfl, rfl, ⟨by decide, by decide⟩, _, rfl, pi, _, rfl, .inl (SqL.of f56), _, _, rfl, rfl, (by show (0 : Int) < _; omega), pi, _, _, _, rfl, rfl, SqL.of f56, by rw [hjj]; exact atI_nat hl, ?_⟩
        obtain ⟨tx, htx⟩ : ∃ t, ts[jj]? = some t := ⟨_, List.getElem?_eq_getElem (by omega)⟩
        obtain ⟨x, hx, vx⟩ := ra.get' htx
        have mt := List.mem_of_getElem? htx
        have zx := Pt.sizeL_mem mt
        have dx := Pt.deepL_mem mt
        have wx := Pt.wideL_mem mt
        refine .inl (.inl ⟨_, rfl, _, rfl, a, _, _, x, rfl, rfl, .inl ha6, atI_nat hx, _, rfl, _, rfl, _, _, rfl, rfl, _, rfl, G, x, tx, c, d + 1, nm, ys, B, by rw [ed]; rfl, sG.trans s06, vx, Pt.docL_mem dt _ mt, by omega, by omega, by omega, by omega, hn5.up s6, hB, hB2, by omega, fun w t' H8 s8 v8 d8 z8 p8 w8 => ?_⟩)
        have f8 := s8 _ _ f6
        refine ⟨_, rfl, _, rfl, p6, vs, (jj : Int), jj, rfl, rfl, f8, by unfold ixN; rw [if_pos (by omega), if_pos (by omega), Int.toNat_natCast], ⟨_, rfl, ?_⟩⟩
        have s08 := s06.trans s8
        have up8 : Same (ov G H6 H8) (ov G H (upd H8 p6 (.lst (vs.set jj w)))) := ov_up sG (fun b h => s06.free h) fun b o h1 h2 => by rw [upd_ne (fun z => by rw [z, f6] at h1; cases h1)]; exact h2
        have sz := sizeL_set (t := t') htx
        refine q _ (.lst (ts.set jj t')) _ (s08.put n6) (.lst (.inl (by rw [ov_new sG n6, upd_same])) (((ra.up ov_old).setV v8 jj).up up8)) (Pt.docL_of fun u hu => ?_) ?_ ?_ ?_
        · rcases mem_set hu with h | rfl
          · exact Pt.docL_mem dt u h
          · exact d8
        · simp only [Pt.size]; omega
        · have := deepL_of (us := ts.set jj t') (n := Pt.deepL ts + 2) fun u hu => by
            rcases mem_set hu with h | rfl
            · have := Pt.deepL_mem h; omega
            · omega
          simp only [Pt.deep]; omega
        · have := wideL_of (us := ts.set jj t') (n := B + 1) fun u hu => by
            rcases mem_set hu with h | rfl
            · have := Pt.wideL_mem h; omega
            · omega
          simp only [Pt.wide]; omega
      | @dct a kvs ks ts ha hka ra =>
        obtain ⟨ss, el, pm, so⟩ := st
        have kl : kvs.length = ks.length := by have := congrArg List.length hka; simpa using this
        have ek := kvz_of hka
        have raK := ra
        obtain ⟨ws, hws⟩ : ∃ ws, ws = kvs.map (·.2) := ⟨_, rfl⟩
        rw [← hws] at ra ek
        have lw := ra.length
        simp only [Pt.size] at zt q
        simp only [Pt.doc] at dt
        simp only [Pt.deep] at dp q
        simp only [Pt.wide] at wt
        obtain ⟨t1', t2', t3', t4', t5'⟩ := dt
        have elw : ks.length = ws.length := by omega
        have ha5 := (ha.up (sG _)).up (s15 _)
        refine .inr ⟨_, rfl, a, kvs, ks, rfl, ha5, hka, fun p5 hp5 => ?_⟩
        have sl := Same.new (o := .lst (ks.map V.str)) hp5
        generalize upd H5 p5 (.lst (ks.map V.str)) = H5b at sl ⊢
        have s15b := s15.trans sl
        refine ⟨_, rfl, _, "dict", "dict", rfl, rfl, .dK (ha5.up (sl _)), _, rfl, iteT ⟨_, rfl, a, kvs, rfl, ha5.up (sl _), fun p6 hp6 => ?_⟩⟩
        have f6 : upd H5b p6 (.dK kvs) p6 = some (.dK kvs) := upd_same
        have s6 := Same.new (o := .dK kvs) hp6
        generalize upd H5b p6 (.dK kvs) = H6 at f6 s6 ⊢
        have s06 := s15b.trans s6
        have n6 := s15b.free hp6
        have ha6 := (ha.up (sG _)).up (s06 _)
        have f56 := s6 _ _ (sl _ _ f5)
        obtain ⟨y, hy⟩ : ∃ y, ss[jj]? = some y := ⟨_, List.getElem?_eq_getElem (by rw [el, List.length_map] at jl; exact jl)⟩
        have hl : l[jj]? = some (.str y) := by rw [el, List.getElem?_map, hy]; rfl
        refine ⟨_, rfl, _, rfl, _, _, rfl, rfl, ⟨by decide, by decide⟩, _, rfl, pi, _, rfl, .inl (SqL.of f56), _, _, rfl, rfl, (by show (0 : Int) < _; omega), pi, _, _, _, rfl, rfl, SqL.of f56, by rw [hjj]; exact atI_nat hl, ?_⟩
        obtain ⟨kj, hkj⟩ := List.mem_iff_getElem?.mp (pm.mem_iff.mp (List.mem_of_getElem? hy))
        have hkj' := (List.getElem?_eq_some_iff.mp hkj).1
        have eg : ks.getD kj "" = y := by rw [List.getD_eq_getElem?_getD, hkj]; rfl
        obtain ⟨x, tx, k1, htx, vx⟩ := val_at hka raK t2' hkj'
        rw [eg] at k1
        have mt := List.mem_of_getElem? htx
        have zx := Pt.sizeL_mem mt
        have dx := Pt.deepL_mem mt
        have wx := Pt.wideL_mem mt
        refine .inr (.inr ⟨_, rfl, _, rfl, a, x, rfl, .inl ⟨kvs, Sum.inr y, ha6, rfl, k1.symm⟩, _, rfl, _, rfl, _, _, rfl, rfl, _, rfl, G, x, tx, c, d + 1, nm, ys, B, by rw [ed]; rfl, sG.trans s06, vx, Pt.docL_mem t5' _ mt, by omega, by omega, by omega, by omega, (hn5.up sl).up s6, hB, hB2, by omega, fun w t' H8 s8 v8 d8 z8 p8 w8 => ?_⟩)
        have f8 := s8 _ _ f6
        refine ⟨_, rfl, _, rfl, p6, _, rfl, .inl ⟨kvs, Sum.inr y, f8, rfl, small1000 (by omega), rfl⟩, ?_⟩
        rw [ek, put_at w elw t2' hkj]
        have s08 := s06.trans s8
        have up8 : Same (ov G H6 H8) (ov G H (upd H8 p6 (.dK (kvz ks (ws.set kj w))))) := ov_up sG (fun b h => s06.free h) fun b o h1 h2 => by rw [upd_ne (fun z => by rw [z, f6] at h1; cases h1)]; exact h2
        have sz := sizeL_set (t := t') htx
        have el2 : ks.length = (ws.set kj w).length := by rw [List.length_set]; exact elw
        refine ⟨_, rfl, q _ (.dct ks (ts.set kj t')) _ (s08.put n6) (.dct (.inl (by rw [ov_new sG n6, upd_same])) (kvz_keys el2) (by rw [kvz_vals el2]; exact (((ra.up ov_old).setV v8 kj).up up8))) ?_ ?_ ?_ ?_⟩
        · simp only [Pt.doc]
          refine ⟨by rw [List.length_set]; exact t1', t2', t3', t4', Pt.docL_of fun u hu => ?_⟩
          rcases mem_set hu with h | rfl
          · exact Pt.docL_mem t5' u h
          · exact d8
        · simp only [Pt.size]; omega
        · have := deepL_of (us := ts.set kj t') (n := Pt.deepL ts + 2) fun u hu => by
            rcases mem_set hu with h | rfl
            · have := Pt.deepL_mem h; omega
            · omega
          simp only [Pt.deep]; omega
        · have := wideL_of (us := ts.set kj t') (n := B + 1) fun u hu => by
            rcases mem_set hu with h | rfl
            · have := Pt.wideL_mem h; omega
            · omega
          simp only [Pt.wide]; omega
theorem all_Bent {f : Addr} {fd : FuncData} (F : Fun K "_law_bent" "_law_bent" sBent f fd) (T : Txt mg) (b : Binds K fd ["_law_doc_here", "_law_cell_here", "_law_deep", "_law_names_here"] []) (m : mg "_law_bent" = some (.ref f)) (DMix : Df P w K mg base "_law_mix" ["_law_cell_here", "_law_k"] 1 spMix) (DDoc : Df P w K mg base "_law_doc" ["_law_cell_here", "_law_k", "_law_names_here"] 2 spDocV) : ∀ n : Nat, FnOk P w K mg base CX0 n f fd ["_law_doc_here", "_law_cell_here", "_law_deep", "_law_names_here"] (spBent n)
  | 0 => none0 (fun vs H Q E h => by obtain ⟨_, _, _, _, _, _, _, _, _, _, _, _, _, _, h0, h1, _⟩ := h; omega)
  | n + 1 => ok_Bent F T DMix DDoc (Df.mk' F b m (all_Bent F T b m DMix DDoc n))
end
end K41

set_option Elab.async false
set_option linter.all false
set_option maxRecDepth 100000
set_option maxHeartbeats 40000000
namespace K41
open PySem L2
section
variable {P : Program} {w : World} {K : PySem.W.Frag} {mg : Str → Option Value} {base : Heap}
theorem scLets : FnScope ["_law_asks_here", "_law_doc_here", "_law_others"] ["_law_asks_here", "_law_doc_here"] (defScope sLets) := ⟨rfl, rfl, rfl, by decide +kernel, rfl, by decide +kernel, by decide +kernel⟩
theorem ok_Lets {n : Nat} {f : Addr} {fd : FuncData} (F : Fun K "_law_lets" "_law_lets" sLets f fd) (T : Txt mg) (DLets : Df P w K mg base "_law_lets" ["_law_asks_here", "_law_doc_here"] n (spLets n)) : FnOk P w K mg base CX0 (n + 1) f fd ["_law_asks_here", "_law_doc_here"] (spLets (n + 1)) := by
  obtain ⟨fLets, dLets, kLets, bLets, mLets, GLets⟩ := DLets.ex
  refine F.ok scLets (fun vs H Q E h => ?_) (fun cdv A outer s H vs Q E hr h => ?_)
  · obtain ⟨v, y, a0, t, rfl, hv, hy, hok, dt, za, zt, hdp, q⟩ := h
    rfl
  · obtain ⟨v, y, a0, t, rfl, hv, hy, hok, dt, za, zt, hdp, q⟩ := h
    have nd := scLets.nd
    have hu := hu_of hr
    have hrLets : Room n _ := hr.mono (by first | decide | omega)
    refine ⟨_, (pss_cons (ps_if (pt_cmpR op_eq (pe_ix (r := rIxT K) ix_tup (pv 0) pe_int (fun _ _ => rfl)) pe_str (nomark _)) (pss_one (ps_ret pe_bl)) pss_nil)
      (pss_cons (ps_if (pt_cmpR op_eq (pe_ix (r := rIxT K) ix_tup (pv 0) pe_int (fun _ _ => rfl)) pe_str (nomark _)) (pss_one (ps_ret (pe_cmpR (op_eqD (Room.units hr)) (pe_ix (r := rIxT K) ix_tup (pv 0) pe_int (fun _ _ => rfl)) (pv 1) (nomark _)))) pss_nil)
      (pss_cons (ps_if (pt_cmpR op_eq (pe_ix (r := rIxT K) ix_tup (pv 0) pe_int (fun _ _ => rfl)) pe_str (nomark _)) (pss_cons (ps_if (PW.pt (pw_or (pt_not (pt_val (pe_callB call_isiN rfl T.isinstance b_isinstance (pa_cons (pv 1) (pa_cons (pe_bltn (v := .ty "list") rfl T.list b_list rfl) pa_nil))))) (pw_or (pt_cmpR op_lt (pe_callB call_len_seq rfl T.len PySem.boot_len (pa_cons (pv 1) pa_nil)) (pe_callB call_len_seq rfl T.len PySem.boot_len (pa_cons (pe_ix (r := rIxT K) ix_tup (pv 0) pe_int (fun _ _ => rfl)) pa_nil)) (nomark _)) (pw_or1 (PW.pt (pw_and (pt_not (pt_val (pe_ix (r := rIxT K) ix_tup (pv 0) pe_int (fun _ _ => rfl)))) (pw_and1 (pt_cmpR op_gt (pe_callB call_len_seq rfl T.len PySem.boot_len (pa_cons (pv 1) pa_nil)) (pe_callB call_len_seq rfl T.len PySem.boot_len (pa_cons (pe_ix (r := rIxT K) ix_tup (pv 0) pe_int (fun _ _ => rfl)) pa_nil)) (nomark _))))))))) (pss_one (ps_ret pe_bl)) pss_nil)
      (pss_one (ps_ret (pe_callB (call_all rfl) rfl T.all b_all (pa_cons (pe_comp (fv := ["_law_doc_here", "_law_asks_here"]) (fs := [1, 0]) rfl (.of (by rfl)) (pi_range1 rfl T.range (pa_cons (pe_callB call_len_seq rfl T.len PySem.boot_len (pa_cons (pe_ix (r := rIxT K) ix_tup (pv 0) pe_int (fun _ _ => rfl)) pa_nil)) pa_nil)) (fun _ _ _ _ => pts_nil) (fun C s0 H0 fp => (pe_call GLets hrLets rfl mLets kLets bLets .nil pass0 (pa_cons (pe_ix (r := rIxL K) ix_list (pe_ix (r := rIxT K) ix_tup (pv 2) pe_int (fun _ _ => rfl)) (pv 0) (fun _ _ => rfl)) (pa_cons (pe_ix (r := rIxL K) ix_list (pv 1) (pv 0) (fun _ _ => rfl)) pa_nil))))) pa_nil))))) pss_nil)
      (pss_cons (ps_if (pt_not (pt_val (pe_callB call_isiN rfl T.isinstance b_isinstance (pa_cons (pv 1) (pa_cons (pe_bltn (v := .ty "dict") rfl T.dict b_dict rfl) pa_nil))))) (pss_one (ps_ret pe_bl)) pss_nil)
      (pss_cons (ps_walk (ps_setComp (i := 2)  (fv := ["_law_asks_here"]) (fs := [0]) rfl (.of (by rfl)) nd rfl (Or.inl rfl) (pi_dict (pv 1)) (fun C s0 H0 fp => pts_one (pt_cmp (pc_dnotin hu (pv 0) (pe_ix (r := rIxT K) ix_tup (pv 1) pe_int (fun _ _ => rfl))))) (fun C s0 H0 fp => (pv 0))))
      (pss_cons (ps_if (PW.pt (pw_or (pt_cmpR op_lt (pe_op op_sub (pe_callB call_lenR rfl T.len PySem.boot_len (pa_cons (pv 1) pa_nil)) (pe_callB call_len_seq rfl T.len PySem.boot_len (pa_cons (pv 2) pa_nil))) (pe_callB call_lenR rfl T.len PySem.boot_len (pa_cons (pe_ix (r := rIxT K) ix_tup (pv 0) pe_int (fun _ _ => rfl)) pa_nil)) (nomark _)) (pw_or1 (PW.pt (pw_and (pt_not (pt_val (pe_ix (r := rIxT K) ix_tup (pv 0) pe_int (fun _ _ => rfl)))) (pw_and1 (pt_cmpR (op_neE (Room.units0 hr)) (pv 2) (pe_lst pa_nil) (nomark _)))))))) (pss_one (ps_ret pe_bl)) pss_nil)
      (pss_cons (ps_if (pt_cmpR (op_neE (Room.units0 hr)) (pe_comp (fv := ["_law_asks_here"]) (fs := [0]) rfl (.of (by rfl)) (pi_list (pv 2)) (fun C s0 H0 fp => pts_one (pt_cmpR (op_in_seq : OpR _ _ (rIn K false)) (pv 0) (pe_ix (r := rIxT K) ix_tup (pv 1) pe_int (fun _ _ => rfl)) rfl)) (fun C s0 H0 fp => (pv 0))) (pe_lst pa_nil) (nomark _)) (pss_one (ps_ret pe_bl)) pss_nil)
      (pss_one (ps_ret (pe_callB (call_all rfl) rfl T.all b_all (pa_cons (pe_walk (pe_comp (fv := ["_law_doc_here", "_law_asks_here"]) (fs := [1, 0]) rfl (.of (by rfl)) (pi_dict (pe_ix (r := rIxT K) ix_tup (pv 0) pe_int (fun _ _ => rfl))) (fun _ _ _ _ => pts_nil) (fun C s0 H0 fp => (pe_call GLets hrLets rfl mLets kLets bLets .nil pass0 (pa_cons (pe_dget hu (pe_ix (r := rIxT K) ix_tup (pv 2) pe_int (fun _ _ => rfl)) (pv 0) (fun _ _ => rfl)) (pa_cons (pe_dget hu (pv 1) (pv 0) (fun _ _ => rfl)) pa_nil)))))) pa_nil))))))))))), ?_⟩
    obtain ⟨t0, w0, rest, rfl, ht, cs⟩ := hv.ak
    rcases cs with ⟨rfl, rfl, rfl⟩ | ⟨d, u, rfl, rfl, rfl, hu0⟩ | ⟨xs, m, u, rfl, rfl, rfl, hu0⟩ | ⟨ks, xs, ls, m, u, z, rfl, rfl, rfl, hu0, hz⟩
    · exact ⟨_, rfl, t0, _, 0, _, rfl, rfl, SqT.of ht, at0, rfl, _, rfl, iteBT (by decide +kernel) (by simp only [Ak.lets] at q; exact q H (Same.refl H))⟩
    · refine ⟨_, rfl, t0, _, 0, _, rfl, rfl, SqT.of ht, at0, rfl, _, rfl, iteBF (by decide +kernel) ?_⟩
      refine ⟨_, rfl, t0, _, 0, _, rfl, rfl, SqT.of ht, at0, rfl, _, rfl, iteBT (by decide +kernel) ?_⟩
      simp only [Ak.ok] at hok
      simp only [Ak.lets] at q
      exact ⟨_, rfl, t0, _, 1, u, rfl, rfl, SqT.of ht, at1, _, rfl, d, t, hu0, hy, hok.1, dt, q H (Same.refl H)⟩
    · refine ⟨_, rfl, t0, _, 0, _, rfl, rfl, SqT.of ht, at0, rfl, _, rfl, iteBF (by decide +kernel) ?_⟩
      refine ⟨_, rfl, t0, _, 0, _, rfl, rfl, SqT.of ht, at0, rfl, _, rfl, iteBF (by decide +kernel) ?_⟩
      refine ⟨_, rfl, t0, _, 0, _, rfl, rfl, SqT.of ht, at0, rfl, _, rfl, iteBT (by decide +kernel) ?_⟩
      refine ⟨_, rfl, _, "list", t.tyS, rfl, rfl, hy.ty, _, rfl, ?_⟩
      simp only [Ak.ok] at hok
      simp only [Ak.deep] at hdp
      simp only [Ak.size] at za
      cases hu0 with
      | @lst a vs _ ha ra =>
        have la := ra.length
        rw [Ak.ptL_map, List.length_map] at la
        have lxa := Ak.lenL xs
        cases hy with
        | @lst b ws ys hb rb =>
          have lb := rb.length
          simp only [Pt.doc] at dt
          simp only [Pt.size] at zt
          simp only [Ak.lets] at q
          refine iteF ⟨_, rfl, b, _, rfl, .inl (.inl hb), _, rfl, t0, _, 1, _, rfl, rfl, SqT.of ht, at1, a, _, rfl, .inl (.inl ha), _, _, rfl, rfl, _, rfl, ?_⟩
          refine ite2B (fun h1 => ?_) (fun h1 => ?_)
          · have h1 := of_decide_eq_true h1
            have e : Ak.cnt ys.length xs.length m = false := by
              have e1 : (ys.length == xs.length) = false := by simp; omega
              have e2 : decide (xs.length < ys.length) = false := by simp; omega
              simp [Ak.cnt, e1, e2]
            rw [e, Bool.false_and] at q
            exact iteT (q H (Same.refl H))
          have h1 := of_decide_eq_false h1
          have key : (Ak.cnt ys.length xs.length m = true → tRet
                  (tCB (r_call_all K)
                    (tCons
                      (tComp
                        (iRng1
                          (tCons
                            (tCB (r_call_len_seq K) (tCons (tOp (rIxT K) (tVar 0) (tC (V.int 1))) tNil))
                            tNil))
                        tYes
                        (tCall (spLets n) [] E0
                          (tCons (tOp (rIxL K) (tOp (rIxT K) (tVar 2) (tC (V.int 1))) (tVar 0))
                            (tCons (tOp (rIxL K) (tVar 1) (tVar 0)) tNil)))
                        [1, 0])
                      tNil)) { nx := fun x H' => Q V.non H', rt := Q } [some (V.ref t0), some (V.ref b), none] H) := fun hc => by
            rw [hc, Bool.true_and] at q
            refine ⟨_, rfl, t0, _, 1, _, rfl, rfl, SqT.of ht, at1, a, _, rfl, .inl (.inl ha), vs.length, rfl, by omega, by omega, ?_⟩
            refine comp_rel (n := vs.length) (fun i => .int (0 + (i : Int))) (fun i v => ∃ p, (xs.zip ys)[i]? = some p ∧ v = .bl (Ak.lets p.1 p.2)) (le_line (by omega)) (fun i H2 hi s2 => hi) (fun i H2 v H' hi s2 y => ⟨y.2, y.1⟩) (fun H2 s2 => Nat.le_refl _) (fun i H2 R hi s2 r => ?_) (fun D H2 rs hD s2 d2 lr or => ?_)
            · have e0 : (0 : Int) + (i : Int) = (i : Int) := by omega
              rw [e0]
              obtain ⟨x, hx⟩ : ∃ x, vs[i]? = some x := ⟨_, List.getElem?_eq_getElem hi⟩
              obtain ⟨y, hy⟩ : ∃ y, ws[i]? = some y := ⟨_, List.getElem?_eq_getElem (by omega)⟩
              obtain ⟨px, g1, vx⟩ := ra.get hx
              obtain ⟨py, g2, vy⟩ := rb.get hy
              rw [Ak.ptL_map, List.getElem?_map] at g1
              obtain ⟨ax, hax⟩ : ∃ ax, xs[i]? = some ax := ⟨_, List.getElem?_eq_getElem (by omega)⟩
              rw [hax] at g1
              cases g1
              have m1 := List.mem_of_getElem? hax
              have m2 := List.mem_of_getElem? g2
              have d1 := Ak.deepL_mem m1
              have z1 := Ak.sizeL_mem m1
              have z2 := Pt.sizeL_mem m2
              refine ⟨_, rfl, t0, _, 1, _, rfl, rfl, SqT.of (s2 _ _ ht), at1, _, rfl, a, _, _, x, rfl, rfl, .inl (ha.up (s2 _)), atI_nat hx, _, rfl, _, rfl, b, _, _, y, rfl, rfl, .inl (hb.up (s2 _)), atI_nat hy, x, y, ax, py, rfl, vx.up s2, vy.up s2, Ak.okL_mem hok _ m1, Pt.docL_mem dt _ m2, by omega, by omega, by omega, fun H3 s3 => r _ H3 s3 ⟨(ax, py), ?_, rfl⟩⟩
              rw [List.getElem?_zip_eq_some]
              exact ⟨hax, g2⟩
            · have lz : (xs.zip ys).length = xs.length := by rw [List.length_zip]; omega
              have e := list_bl (ps := xs.zip ys) (f := fun p => Ak.lets p.1 p.2) (vs := rs) (by omega) or
              rw [e] at d2
              refine ⟨D, _, rfl, SqL.of d2, ?_⟩
              have e2 : ((xs.zip ys).map fun p => Ak.lets p.1 p.2).all id = Ak.letsL xs ys := by rw [Ak.letsL_zip, List.all_map]; rfl
              rw [e2]
              exact q H2 s2
          refine ⟨_, rfl, t0, _, 2, _, rfl, rfl, SqT.of ht, at2, _, rfl, ?_⟩
          cases m with
          | true =>
            refine iteF (iteF (key ?_))
            have : xs.length ≤ ys.length := by omega
            rw [show Ak.cnt ys.length xs.length true = (ys.length == xs.length || decide (xs.length < ys.length)) from rfl]
            rcases Nat.lt_or_ge xs.length ys.length with h | h
            · simp [h]
            · have : ys.length = xs.length := by omega
              simp [this]
          | false =>
            refine iteT ⟨_, rfl, b, _, rfl, .inl (.inl hb), _, rfl, t0, _, 1, _, rfl, rfl, SqT.of ht, at1, a, _, rfl, .inl (.inl ha), _, _, rfl, rfl, _, rfl, ?_⟩
            refine ite2B (fun h2 => ?_) (fun h2 => ?_)
            · have h2 := of_decide_eq_true h2
              have e : Ak.cnt ys.length xs.length false = false := by
                have e1 : (ys.length == xs.length) = false := by simp; omega
                simp [Ak.cnt, e1]
              rw [e, Bool.false_and] at q
              exact q H (Same.refl H)
            · have h2 := of_decide_eq_false h2
              refine key ?_
              have : ys.length = xs.length := by omega
              simp [Ak.cnt, this]
        | int i => exact iteT (iteT (q H (Same.refl H)))
        | str i => exact iteT (iteT (q H (Same.refl H)))
        | bl b => simp [Pt.doc] at dt
        | tup _ _ => simp [Pt.doc] at dt
        | dct _ _ _ => exact iteT (iteT (q H (Same.refl H)))
    · refine ⟨_, rfl, t0, _, 0, _, rfl, rfl, SqT.of ht, at0, rfl, _, rfl, iteBF (by decide +kernel) ?_⟩
      refine ⟨_, rfl, t0, _, 0, _, rfl, rfl, SqT.of ht, at0, rfl, _, rfl, iteBF (by decide +kernel) ?_⟩
      refine ⟨_, rfl, t0, _, 0, _, rfl, rfl, SqT.of ht, at0, rfl, _, rfl, iteBF (by decide +kernel) ?_⟩
      refine ⟨_, rfl, _, "dict", t.tyS, rfl, rfl, hy.ty, _, rfl, ?_⟩
      simp only [Ak.ok] at hok
      simp only [Ak.deep] at hdp
      simp only [Ak.size] at za
      obtain ⟨o1, o2, o3, o4, o5, o6, o7⟩ := hok
      cases hy with
      | int i => exact iteT (q H (Same.refl H))
      | str i => exact iteT (q H (Same.refl H))
      | bl b => simp [Pt.doc] at dt
      | tup _ _ => simp [Pt.doc] at dt
      | lst _ _ => exact iteT (q H (Same.refl H))
      | @dct b kws ns ys hb hkb rb =>
        refine iteF ?_
        cases hu0 with
        | @dct a kvs _ _ ha hka ra =>
          cases hz with
          | @lst l vl _ hl rl =>
            have kl : kvs.length = ks.length := by have := congrArg List.length hka; simpa using this
            have klb : kws.length = ns.length := by have := congrArg List.length hkb; simpa using this
            simp only [Pt.doc] at dt
            simp only [Pt.size] at zt
            simp only [Ak.lets] at q
            rw [lets_tab m o2 dt.2.1 o6] at q
            have vls : vl = ls.map V.str := by
              have gen : ∀ {vs : List V} {ls : List Str}, ValL H vs (ls.map Pt.str) → vs = ls.map V.str := by
                intro vs ls
                induction ls generalizing vs with
                | nil => intro h; cases h; rfl
                | cons x r ih =>
                  intro h
                  cases h with
                  | cons h1 h2 => cases h1; rw [List.map_cons, ih h2]
              exact gen rl
            subst vls
            refine ⟨b, kws, hb, fun o Hf F => ⟨_, rfl, b, o, _, rfl, F.at_, ?_⟩⟩
            refine comp_pure (n := ns.length) (fun i => .str (ns.getD i "")) (fun i => .str (ns.getD i "")) (fun i => !decide (ns.getD i "" ∈ ks)) (le_line (by omega)) (fun i D ys hi hD => ⟨by rw [upd_ne (ne_of_none F.at_ hD)]; exact F.at_, by rw [klb]; exact hi⟩) (fun i D ys v H' hi hD y => ?_)
              (fun D ys hD => ⟨by rw [upd_ne (ne_of_none F.at_ hD)]; exact F.at_, klb.symm⟩) (fun i D ys R hi hD r => ?_) (fun i D ys R hi hD _ r => ⟨_, rfl, r⟩) (fun D hD => ?_)
            · obtain ⟨e, k, w', e1, e2⟩ := y
              rw [(key_at hkb e1).2] at e2
              exact ⟨e2, e⟩
            · have rda : Rd (upd Hf D (.lst ys)) a (.dK kvs) := (F.rd _ _ ha).up fun o e => by rw [upd_ne (ne_of_none e hD)]; exact e
              have htf : upd Hf D (.lst ys) t0 = some (.tup [V.str "table", .ref a, .ref l, V.bl m]) := by
                have := (Kps.frz F).tp _ _ ht
                rw [upd_ne (ne_of_none this hD)]; exact this
              refine ⟨_, rfl, _, rfl, t0, _, 1, _, rfl, rfl, SqT.of htf, at1, a, _, rfl, .inl ⟨kvs, Sum.inr (ns.getD i ""), rda, rfl, rfl⟩, _, rfl, ?_⟩
              rw [is_in hka]
              exact r
            · have hD0 := F.free hD
              refine ⟨by rw [upd_ne (ne_of_none F.at_ hD)]; exact F.at_, ?_⟩
              rw [range_get ns fun n => !decide (n ∈ ks)]
              obtain ⟨os, hos⟩ : ∃ os, os = ns.filter fun n => !decide (n ∈ ks) := ⟨_, rfl⟩
              rw [← hos] at q ⊢
              have los : os.length ≤ ns.length := by rw [hos]; exact List.length_filter_le _ _
              have s1 : Same H (back b H (upd Hf D (.lst (os.map V.str)))) := F.back (Same.new hD)
              have fD : back b H (upd Hf D (.lst (os.map V.str))) D = some (.lst (os.map V.str)) := by rw [back_ne hD0.2, upd_same]
              generalize back b H (upd Hf D (.lst (os.map V.str))) = H1 at s1 fD ⊢
              have ht1 := s1 _ _ ht
              have hb1 := hb.up (s1 _)
              have ha1 := ha.up (s1 _)
              dsimp only
              refine seq_if (t := tIfS _ _ _) (fun H5 => Same H1 H5 ∧ (decide (((ns.length : Nat) : Int) - ((os.length : Nat) : Int) < ((ks.length : Nat) : Int))) = false ∧ (m || os.isEmpty) = true) (fun H5 ⟨s5, c1, c2⟩ => ?_) (fun key => ?_)
              rotate_left
              · refine ⟨_, rfl, b, kws, rfl, hb1, _, rfl, D, _, rfl, .inl (SqL.of fD), _, _, rfl, rfl, _, rfl, t0, _, 1, _, rfl, rfl, SqT.of ht1, at1, a, kvs, rfl, ha1, _, _, rfl, rfl, _, rfl, ?_⟩
                rw [klb, kl, List.length_map]
                refine ite2B (fun h1 => ?_) (fun h1 => ?_)
                · rw [h1, Bool.not_true, Bool.false_and, Bool.false_and, Bool.false_and] at q
                  exact iteT (q H1 s1)
                refine ⟨_, rfl, t0, _, 3, _, rfl, rfl, SqT.of ht1, atI_nat (j := 3) rfl, _, rfl, ?_⟩
                cases m with
                | true => exact iteF (iteF (key H1 ⟨Same.refl _, h1, rfl⟩))
                | false =>
                  refine iteT ⟨_, rfl, Nat.zero_le _, fun pe hpe => ⟨D, pe, _, rfl, rfl, SqL.of ((Same.new hpe) _ _ fD), SqL.of upd_same, _, rfl, ?_⟩⟩
                  have se := Same.new (o := .lst []) hpe
                  cases os with
                  | nil => exact iteF (key _ ⟨se, h1, rfl⟩)
                  | cons x r =>
                    rw [h1] at q
                    exact iteT (q _ (s1.trans se))
              · have s05 := s1.trans s5
                rw [c1, c2, Bool.not_false, Bool.true_and, Bool.true_and] at q
                have fD5 := s5 _ _ fD
                have ht5 := s05 _ _ ht
                have hl5 := hl.up (s05 _)
                have li : ∀ i, i < os.length → (os.map V.str)[i]? = some (.str (os.getD i "")) := fun i hi => by
                  rw [List.getElem?_map, List.getElem?_eq_getElem hi, List.getD_eq_getElem?_getD, List.getElem?_eq_getElem hi]
                  rfl
                have up2 : ∀ {D2 : Addr} {zs : List V}, H5 D2 = none → upd H5 D2 (.lst zs) D = some (.lst (os.map V.str)) := fun h => by rw [upd_ne (ne_of_none fD5 h)]; exact fD5
                refine ⟨_, rfl, D, rfl, ⟨_, SqL.of fD5⟩, ?_⟩
                refine comp_pure (n := os.length) (fun i => .str (os.getD i "")) (fun i => .str (os.getD i "")) (fun i => decide (os.getD i "" ∈ ls)) (le_line (by omega)) (fun i D2 zs hi hD2 => ⟨_, _, SqL.of (up2 hD2), li i hi⟩) (fun i D2 zs v H' hi hD2 y => ?_)
                  (fun D2 zs hD2 => ⟨_, SqL.of (up2 hD2), by rw [List.length_map]; exact Nat.le_refl _⟩) (fun i D2 zs R hi hD2 r => ?_) (fun i D2 zs R hi hD2 _ r => ⟨_, rfl, r⟩) (fun D2 hD2 => ?_)
                · obtain ⟨e, y⟩ := y
                  have := y _ (SqL.of (up2 hD2))
                  rw [li i hi] at this
                  exact ⟨(Option.some.inj this).symm, e⟩
                · have hl6 : Rd (upd H5 D2 (.lst zs)) l (.lst (ls.map V.str)) := hl5.up fun o e => by rw [upd_ne (ne_of_none e hD2)]; exact e
                  refine ⟨_, rfl, _, rfl, t0, _, 2, _, rfl, rfl, SqT.of (by rw [upd_ne (ne_of_none ht5 hD2)]; exact ht5), at2, l, _, rfl, .inl (.inl hl6), rfl, ?_, _, rfl, ?_⟩
                  · rw [List.all_map]
                    exact List.all_eq_true.mpr fun _ _ => rfl
                  · rw [inV_strs]
                    exact r
                · rw [range_get os fun n => decide (n ∈ ls)]
                  obtain ⟨us, hus⟩ : ∃ us, us = os.filter fun n => decide (n ∈ ls) := ⟨_, rfl⟩
                  rw [← hus] at q ⊢
                  have s6 := s05.trans (Same.new (o := .lst (us.map V.str)) hD2)
                  have f6 : upd H5 D2 (.lst (us.map V.str)) D2 = some (.lst (us.map V.str)) := upd_same
                  generalize upd H5 D2 (.lst (us.map V.str)) = H6 at s6 f6 ⊢
                  refine ⟨Nat.zero_le _, fun pe hpe => ⟨D2, pe, _, rfl, rfl, SqL.of ((Same.new hpe) _ _ f6), SqL.of upd_same, _, rfl, ?_⟩⟩
                  have s7 := s6.trans (Same.new (o := .lst []) hpe)
                  generalize upd H6 pe (.lst []) = H7 at s7 ⊢
                  cases us with
                  | cons x r => exact iteT (q H7 s7)
                  | nil =>
                    refine iteF ?_
                    simp only [List.isEmpty_nil, Bool.true_and] at q
                    have hall : ∀ k ∈ ks, k ∈ ns := by
                      have c := cntK o2 dt.2.1
                      rw [← hos] at c
                      have c1 := of_decide_eq_false c1
                      have le : (ks.filter fun k => decide (k ∈ ns)).length ≤ ks.length := List.length_filter_le _ _
                      have := List.length_filter_eq_length_iff.mp (show (ks.filter fun k => decide (k ∈ ns)).length = ks.length by omega)
                      exact fun k hk => of_decide_eq_true (this k hk)
                    obtain ⟨bs, e2⟩ := lk_all dt.1 (ss := ks) hall
                    rw [Ak.letsK_allK, allK_zip _ o1 o2 (.refl _) (lk_self o1 o2) e2] at q
                    have lbs : bs.length = ks.length := by have := congrArg List.length e2; simpa using this.symm
                    have ht7 := s7 _ _ ht
                    have ha7 := ha.up (s7 _)
                    refine ⟨a, kvs, ha7, fun o2' Hf2 F2 => ⟨_, rfl, t0, _, 1, .ref a, rfl, rfl, SqT.of ((Kps.frz F2).tp _ _ ht7), at1, a, o2', _, rfl, F2.at_, ?_⟩⟩
                    refine comp_rel (n := ks.length) (fun i => .str (ks.getD i "")) (fun i v => ∃ p, (xs.zip bs)[i]? = some p ∧ v = .bl (Ak.lets p.1 p.2)) (le_line (by omega)) (fun i H2 hi s2 => ⟨s2 _ _ F2.at_, by omega⟩) (fun i H2 v H' hi s2 y => ?_) (fun H2 s2 => ⟨s2 _ _ F2.at_, by omega⟩) (fun i H2 R hi s2 r => ?_) (fun D3 H2 rs hD3 s2 d2 lr or => ?_)
                    · obtain ⟨e, k, w', e1, e2⟩ := y
                      rw [(key_at hka e1).2] at e2
                      exact ⟨e2, e⟩
                    · have kp : Kps H H2 := ((Kps.of s7).trans (Kps.frz F2)).trans (.of s2)
                      obtain ⟨x, px, g1, g2, g3⟩ := val_at hka ra o2 hi
                      obtain ⟨ax, hax⟩ : ∃ ax, xs[i]? = some ax := ⟨_, List.getElem?_eq_getElem (by omega)⟩
                      rw [Ak.ptL_map, List.getElem?_map, hax] at g2
                      cases g2
                      have hk : ks[i]? = some (ks.getD i "") := by rw [List.getD_eq_getElem?_getD, List.getElem?_eq_getElem hi]; rfl
                      have mk : ks.getD i "" ∈ ks := List.mem_of_getElem? hk
                      obtain ⟨pb, hpb⟩ : ∃ pb, bs[i]? = some pb := ⟨_, List.getElem?_eq_getElem (by omega)⟩
                      have e3 : lk ns ys (ks.getD i "") = some pb := by
                        have := congrArg (fun z => z[i]?) e2
                        simp only [List.getElem?_map, hk, hpb] at this
                        exact Option.some.inj this
                      rcases Val.at_name hkb rb (ks.getD i "") with ⟨y, ty, k1, k2, vy⟩ | ⟨_, k2⟩
                      · have e4 : ty = pb := Option.some.inj (k2.symm.trans e3)
                        subst e4
                        have m1 := List.mem_of_getElem? hax
                        have m2 := (lk_mem e3).2
                        have d1 := Ak.deepL_mem m1
                        have z1 := Ak.sizeL_mem m1
                        have z2 := Pt.sizeL_mem m2
                        refine ⟨_, rfl, t0, _, 1, _, rfl, rfl, SqT.of (kp.tp _ _ ht), at1, _, rfl, a, x, rfl, .inl ⟨kvs, Sum.inr (ks.getD i ""), kp.rd _ _ ha, rfl, g1.symm⟩, _, rfl, _, rfl, b, y, rfl, .inl ⟨kws, Sum.inr (ks.getD i ""), kp.rd _ _ hb, rfl, k1.symm⟩, x, y, ax, ty, rfl, g3.upK kp, vy.upK kp, Ak.okL_mem o7 _ m1, Pt.docL_mem dt.2.2.2.2 _ m2, by omega, by omega, by omega, fun H3 s3 => r _ H3 s3 ⟨(ax, ty), ?_, rfl⟩⟩
                        rw [List.getElem?_zip_eq_some]
                        exact ⟨hax, hpb⟩
                      · exact absurd (k2.symm.trans e3) (fun z => nomatch z)
                    · refine ⟨s2 _ _ F2.at_, ?_⟩
                      have lz : (xs.zip bs).length = ks.length := by rw [List.length_zip]; omega
                      have e := list_bl (ps := xs.zip bs) (f := fun p => Ak.lets p.1 p.2) (vs := rs) (by omega) or
                      rw [e] at d2
                      have Da : D3 ≠ a := (F2.free hD3).2
                      have sb := s7.trans (F2.back s2)
                      have d3 : back a H7 H2 D3 = some (.lst (((xs.zip bs).map fun p => Ak.lets p.1 p.2).map V.bl)) := by rw [back_ne Da]; exact d2
                      refine ⟨D3, _, rfl, SqL.of d3, ?_⟩
                      have e2 : ((xs.zip bs).map fun p => Ak.lets p.1 p.2).all id = (xs.zip bs).all fun p => Ak.lets p.1 p.2 := by rw [List.all_map]; rfl
                      rw [e2]
                      exact q _ sb
theorem all_Lets {f : Addr} {fd : FuncData} (F : Fun K "_law_lets" "_law_lets" sLets f fd) (T : Txt mg) (b : Binds K fd ["_law_asks_here", "_law_doc_here"] []) (m : mg "_law_lets" = some (.ref f)) : ∀ n : Nat, FnOk P w K mg base CX0 n f fd ["_law_asks_here", "_law_doc_here"] (spLets n)
  | 0 => none0 (fun vs H Q E h => by obtain ⟨_, _, a, _, _, _, _, _, _, _, _, h0, _⟩ := h; have := Ak.deep_pos a; omega)
  | n + 1 => ok_Lets F T (Df.mk' F b m (all_Lets F T b m n))
end
end K41

set_option Elab.async false
set_option linter.all false
set_option maxRecDepth 100000
set_option maxHeartbeats 40000000
namespace K41
open PySem L2
section
variable {P : Program} {w : World} {K : PySem.W.Frag} {mg : Str → Option Value} {base : Heap}
theorem scLarge : FnScope ["_law_asks_here", "_law_cell_here", "_law_names_here", "_law_way", "_law_number", "_law_k", "_law_more", "_law_cells"] ["_law_asks_here", "_law_cell_here", "_law_names_here"] (defScope sLarge) := ⟨rfl, rfl, rfl, by decide +kernel, rfl, by decide +kernel, by decide +kernel⟩
theorem ok_Large {f : Addr} {fd : FuncData} (F : Fun K "_law_large" "_law_large" sLarge f fd) (T : Txt mg) (DMix : Df P w K mg base "_law_mix" ["_law_cell_here", "_law_k"] 1 spMix) : FnOk P w K mg base CX0 2 f fd ["_law_asks_here", "_law_cell_here", "_law_names_here"] spLarge := by
  obtain ⟨fMix, dMix, kMix, bMix, mMix, GMix⟩ := DMix.ex
  refine F.ok scLarge (fun vs H Q E h => ?_) (fun cdv A outer s H vs Q E hr h => ?_)
  · obtain ⟨v, a0, c, nm, ys, rfl, hv, hok, za, da, hn, q⟩ := h
    rfl
  · obtain ⟨v, a0, c, nm, ys, rfl, hv, hok, za, da, hn, q⟩ := h
    have nd := scLarge.nd
    have hu := hu_of hr
    have hrMix : Room 1 _ := hr.mono (by first | decide | omega)
    refine ⟨_, (pss_cons (ps_set (i := 3) nd rfl (Or.inl rfl) (pe_op op_mod (pe_call GMix hrMix rfl mMix kMix bMix .nil pass0 (pa_cons (pv 1) (pa_cons pe_int pa_nil))) pe_int))
      (pss_cons (ps_set (i := 4) nd rfl (Or.inl rfl) (pe_call GMix hrMix rfl mMix kMix bMix .nil pass0 (pa_cons (pv 1) (pa_cons pe_int pa_nil))))
      (pss_cons (ps_if (pt_cmpR op_eq (pv 3) pe_int (nomark _)) (pss_one (ps_for PassesOwn.never rfl (pi_range1 rfl T.range (pa_cons (pe_op op_add pe_int (pe_op op_mod (pv 4) pe_int)) pa_nil)) (pg_name (i := 5) nd rfl (Or.inl rfl)) (pss_cons (ps_set (i := 6) nd rfl (Or.inl rfl) (pe_cmpR op_eq (pe_op op_mod (pe_op op_fdiv (pe_call GMix hrMix rfl mMix kMix bMix .nil pass0 (pa_cons (pv 1) (pa_cons pe_int pa_nil))) (pe_ix (r := rIxL K) ix_list (@pe_lst _ _ _ _ (@pa_cons _ _ _ _ _ (@pe_int _ _ _ _) (@pa_cons _ _ _ _ _ (@pe_int _ _ _ _) (@pa_cons _ _ _ _ _ (@pe_int _ _ _ _) (@pa_cons _ _ _ _ _ (@pe_int _ _ _ _) (@pa_cons _ _ _ _ _ (@pe_int _ _ _ _) (@pa_cons _ _ _ _ _ (@pe_int _ _ _ _) (@pa_cons _ _ _ _ _ (@pe_int _ _ _ _) (@pa_cons _ _ _ _ _ (@pe_int _ _ _ _) (@pa_cons _ _ _ _ _ (@pe_int _ _ _ _) (@pa_cons _ _ _ _ _ (@pe_int _ _ _ _) pa_nil rfl) rfl) rfl) rfl) rfl) rfl) rfl) rfl) rfl) rfl)) (pv 5) (fun _ _ => rfl))) pe_int) pe_int (nomark _)))
      (pss_one (ps_if (pt_cmpR op_eq (pe_op op_mod (pe_op op_fdiv (pe_call GMix hrMix rfl mMix kMix bMix .nil pass0 (pa_cons (pv 1) (pa_cons pe_int pa_nil))) (pe_ix (r := rIxL K) ix_list (@pe_lst _ _ _ _ (@pa_cons _ _ _ _ _ (@pe_int _ _ _ _) (@pa_cons _ _ _ _ _ (@pe_int _ _ _ _) (@pa_cons _ _ _ _ _ (@pe_int _ _ _ _) (@pa_cons _ _ _ _ _ (@pe_int _ _ _ _) (@pa_cons _ _ _ _ _ (@pe_int _ _ _ _) (@pa_cons _ _ _ _ _ (@pe_int _ _ _ _) (@pa_cons _ _ _ _ _ (@pe_int _ _ _ _) (@pa_cons _ _ _ _ _ (@pe_int _ _ _ _) (@pa_cons _ _ _ _ _ (@pe_int _ _ _ _) (@pa_cons _ _ _ _ _ (@pe_int _ _ _ _) pa_nil rfl) rfl) rfl) rfl) rfl) rfl) rfl) rfl) rfl) rfl)) (pv 5) (fun _ _ => rfl))) pe_int) pe_int (nomark _)) (pss_one (ps_set (i := 0) nd rfl (Or.inl rfl) (pe_tup (pa_cons pe_str (pa_cons (pe_lst (pa_cons (pv 0) pa_nil)) (pa_cons (pv 6) pa_nil)))))) (pss_one (ps_set (i := 0) nd rfl (Or.inl rfl) (pe_tup (pa_cons pe_str (pa_cons (pe_disp (pps_cons (pe_ix (r := rIxL K) ix_list (pv 2) (pe_op op_mod (pv 5) pe_int) (fun _ _ => rfl)) (pv 0) pps_nil) rfl rfl (by simp) (by simp)) (pa_cons (pe_lst pa_nil) (pa_cons (pv 6) pa_nil)))))))))))) pss_nil)
      (pss_cons (ps_if (pt_cmpR op_eq (pv 3) pe_int (nomark _)) (pss_cons (ps_setComp (i := 7)  (fv := ["_law_cell_here"]) (fs := [1]) rfl (.of (by rfl)) nd rfl (Or.inl rfl) (pi_range1 rfl T.range (pa_cons (pe_op op_add pe_int (pe_op op_mod (pv 4) pe_int)) pa_nil)) (fun _ _ _ _ => pts_nil) (fun C s0 H0 fp => (pe_ix (r := rIxL K) ix_list (pe_lst (pa_cons (pe_tup (pa_cons pe_str pa_nil)) (pa_cons (pe_tup (pa_cons pe_str (pa_cons (pv 0) pa_nil))) pa_nil))) (pe_op op_mod (pe_op op_fdiv (pe_call GMix hrMix rfl mMix kMix bMix .nil pass0 (pa_cons (pv 1) (pa_cons pe_int pa_nil))) (pe_op op_add (pv 0) pe_int)) pe_int) (fun _ _ => rfl))))
      (pss_one (ps_set (i := 0) nd rfl (Or.inl rfl) (pe_tup (pa_cons pe_str (pa_cons (pe_op op_cat (pv 7) (pe_lst (pa_cons (pv 0) pa_nil))) (pa_cons (pe_cmpR op_eq (pe_op op_mod (pe_op op_fdiv (pv 4) pe_int) pe_int) pe_int (nomark _)) pa_nil))))))) pss_nil)
      (pss_one (ps_ret (pv 0))))))), ?_⟩
    refine ⟨_, rfl, c, 6, rfl, by decide, fun r6 _ _ => ⟨_, _, rfl, rfl, (by show (0 : Int) < _; decide), ?_⟩⟩
    generalize r6 % 8 = wy
    refine ⟨_, rfl, c, 7, rfl, by decide, fun r7 _ _ => ?_⟩
    dsimp only [gName]
    refine seq_st (t := tIfS _ _ _) (fun σ' H1 => ∃ (w : V) (b : Ak) (o5 o6 : Option V), σ' = [some w, some (.int c), some (.ref nm), some (.int wy), some (.int r7), o5, o6, none] ∧ Same H H1 ∧ Val H1 w b.pt ∧ b.ok ∧ b.size ≤ 67 ∧ b.deep ≤ 15 ∧ (wy ≠ 0 → b.size ≤ 57 ∧ b.deep ≤ 5)) (fun σ' H1 ⟨w, b, o5, o6, es, s1, vb, bo, bz, bd, bw⟩ => ?_) (fun key => ?_)
    rotate_left
    · refine ⟨_, rfl, rfl, _, rfl, ite2B (fun h0 => ?_) (fun h0 => key _ _ ⟨v, a0, none, none, rfl, Same.refl H, hv, hok, by omega, by omega, fun _ => ⟨za, da⟩⟩)⟩
      have wy0 : wy = 0 := V.int.inj (of_decide_eq_true h0)
      have m5 := mod_b r7 (n := 5) (by decide)
      obtain ⟨k5, hk5⟩ : ∃ k : Nat, 6 + r7 % 5 = (k : Int) := ⟨(6 + r7 % 5).toNat, by omega⟩
      have k10 : k5 ≤ 10 := by omega
      refine ⟨_, rfl, _, _, rfl, rfl, (by show (0 : Int) < _; decide), _, _, rfl, rfl, ?_⟩
      rw [hk5]
      refine ⟨k5, rfl, by omega, by omega, for_range (lo := 0) (n := k5) (fun i σ Hi => ∃ (w : V) (b : Ak) (o5 o6 : Option V), σ = [some w, some (.int c), some (.ref nm), some (.int wy), some (.int r7), o5, o6, none] ∧ Same H Hi ∧ Val Hi w b.pt ∧ b.ok ∧ b.size ≤ 57 + i ∧ b.deep ≤ 5 + i) ⟨v, a0, none, none, rfl, Same.refl H, hv, hok, by omega, by omega⟩ ?_ ?_⟩
      · rintro i σ Hi hi ⟨w, b, o5, o6, rfl, si, vb, bo, bz, bd⟩
        obtain ⟨L, hL⟩ : ∃ L : List V, L = [V.int 1, .int 2, .int 4, .int 8, .int 16, .int 32, .int 64, .int 128, .int 256, .int 512] := ⟨_, rfl⟩
        obtain ⟨v4, hv4, mv4⟩ := pick_mem (xs := L) (i := 0 + (i : Int)) (by omega) (by rw [hL]; simp only [List.length_cons, List.length_nil]; omega)
        have vb4 : ∃ m : Int, v4 = .int m ∧ 0 < m ∧ m < 1073741824 := by
          rw [hL] at mv4
          simp only [List.mem_cons, List.not_mem_nil, or_false] at mv4
          rcases mv4 with rfl | rfl | rfl | rfl | rfl | rfl | rfl | rfl | rfl | rfl <;> exact ⟨_, rfl, by decide, by decide⟩
        obtain ⟨m, rfl, hm1, hm2⟩ := vb4
        rw [hL] at hv4
        clear mv4 hL
        refine ⟨_, rfl, c, 8, rfl, by decide, fun r8 _ _ => ⟨le_line (show 10 ≤ 1000 by decide), fun pl hpl => ⟨_, rfl, pl, _, _, _, rfl, rfl, SqL.of upd_same, hv4, _, _, rfl, rfl, ⟨hm1, hm2⟩, _, _, rfl, rfl, (by show (0 : Int) < _; decide), rfl, ?_⟩⟩⟩
        have sl := Same.new (o := .lst [V.int 1, .int 2, .int 4, .int 8, .int 16, .int 32, .int 64, .int 128, .int 256, .int 512]) hpl
        generalize upd Hi pl (.lst [V.int 1, .int 2, .int 4, .int 8, .int 16, .int 32, .int 64, .int 128, .int 256, .int 512]) = Hj at sl ⊢
        generalize decide (V.int (r8 / m % 2) = V.int 1) = mo
        refine ⟨_, rfl, c, 9, rfl, by decide, fun r9 _ _ => ⟨le_line (show 10 ≤ 1000 by decide), fun pl2 hpl2 => ⟨_, rfl, pl2, _, _, _, rfl, rfl, SqL.of upd_same, hv4, _, _, rfl, rfl, ⟨hm1, hm2⟩, _, _, rfl, rfl, (by show (0 : Int) < _; decide), rfl, _, rfl, ?_⟩⟩⟩
        have sl2 := Same.new (o := .lst [V.int 1, .int 2, .int 4, .int 8, .int 16, .int 32, .int 64, .int 128, .int 256, .int 512]) hpl2
        generalize upd Hj pl2 (.lst [V.int 1, .int 2, .int 4, .int 8, .int 16, .int 32, .int 64, .int 128, .int 256, .int 512]) = Hk at sl2 ⊢
        have sk := (si.trans sl).trans sl2
        have vk := (vb.up sl).up sl2
        refine ite2B (fun _ => ?_) (fun _ => ?_)
        · refine ⟨_, rfl, one_line, fun p1 hp1 => ⟨_, rfl, le_line (show 3 ≤ 1000 by decide), fun p2 hp2 => ?_⟩⟩
          have t1 := Same.new (o := .lst [w]) hp1
          have f1 : upd Hk p1 (.lst [w]) p1 = some (.lst [w]) := upd_same
          generalize upd Hk p1 (.lst [w]) = Hm at t1 f1 hp2 ⊢
          have t2 := Same.new (o := .tup [.str "row", .ref p1, .bl mo]) hp2
          refine ⟨.ref p2, .row [b] mo, _, _, rfl, (sk.trans t1).trans t2, .tup upd_same (.cons (.str _) (.cons (.lst (.inl (t2 _ _ f1)) (.cons ((vk.up t1).up t2) .nil)) (.cons (.bl _) .nil))), ⟨bo, trivial⟩, ?_, ?_⟩
          · simp only [Ak.size, Ak.sizeL]; omega
          · simp only [Ak.deep, Ak.deepL]; omega
        · have m4 := mod_b (0 + (i : Int)) (n := 4) (by decide)
          obtain ⟨jj, hjj⟩ : ∃ j : Nat, (0 + (i : Int)) % 4 = (j : Int) := ⟨((0 + (i : Int)) % 4).toNat, by omega⟩
          obtain ⟨y, hy⟩ : ∃ y, ys[jj]? = some y := ⟨_, List.getElem?_eq_getElem (by rw [hn.len]; omega)⟩
          refine fun p1 hp1 => ?_
          have t1 := Same.new (o := .dK []) hp1
          refine ⟨_, rfl, _, rfl, _, _, rfl, rfl, (by show (0 : Int) < _; decide), nm, _, _, _, rfl, rfl, SqL.of ((sk.trans t1) _ _ hn.at_), by rw [hjj]; exact atI_nat (by rw [List.getElem?_map, hy]; rfl), _, rfl, upd_same, [(Sum.inr y, w)], rfl, by simp, ?_⟩
          have m1 : mergeK [] [((Sum.inr y : Key), w)] = [(Sum.inr y, w)] := rfl
          rw [m1]
          have t1' : Same Hk (upd (upd Hk p1 (.dK [])) p1 (.dK [(Sum.inr y, w)])) := t1.put hp1
          have f1 : upd (upd Hk p1 (.dK [])) p1 (.dK [(Sum.inr y, w)]) p1 = some (.dK [(Sum.inr y, w)]) := upd_same
          generalize upd (upd Hk p1 (.dK [])) p1 (.dK [(Sum.inr y, w)]) = Hm at t1' f1 ⊢
          refine ⟨Nat.zero_le _, fun p2 hp2 => ?_⟩
          have t2 := Same.new (o := .lst []) hp2
          have f2 : upd Hm p2 (.lst []) p2 = some (.lst []) := upd_same
          generalize upd Hm p2 (.lst []) = Hn at t2 f2 ⊢
          refine ⟨_, rfl, le_line (show 4 ≤ 1000 by decide), fun p3 hp3 => ?_⟩
          have t3 := Same.new (o := .tup [.str "table", .ref p1, .ref p2, .bl mo]) hp3
          have t12 := t1'.trans t2
          refine ⟨.ref p3, .tab [y] [b] [] mo, _, _, rfl, (sk.trans t12).trans t3, .tup upd_same (.cons (.str _) (.cons (.dct (ks := [y]) (.inl (t3 _ _ (t2 _ _ f1))) rfl (.cons ((vk.up t12).up t3) .nil)) (.cons (.lst (.inl (t3 _ _ f2)) .nil) (.cons (.bl _) .nil)))), ?_, ?_, ?_⟩
          · simp only [Ak.ok]
            exact ⟨rfl, by simp, fun k hk => by rw [List.mem_singleton.mp hk]; exact hn.nb _ (List.mem_of_getElem? hy), by simp, by simp, fun x hx => (nomatch hx), bo, trivial⟩
          · simp only [Ak.size, Ak.sizeL]; omega
          · simp only [Ak.deep, Ak.deepL]; omega
      · rintro σ Hi ⟨w, b, o5, o6, rfl, si, vb, bo, bz, bd⟩
        exact key _ _ ⟨w, b, o5, o6, rfl, si, vb, bo, by omega, by omega, fun z => absurd wy0 z⟩
    subst es
    refine ⟨_, rfl, rfl, _, rfl, ite2B (fun h1 => ?_) (fun _ => ⟨_, rfl, q w b H1 s1 vb bo (by omega) bd⟩)⟩
    have wy1 : wy = 1 := V.int.inj (of_decide_eq_true h1)
    have bw := bw (by omega)
    have m4 := mod_b r7 (n := 4) (by decide)
    obtain ⟨n4, hn4⟩ : ∃ k : Nat, 9 + r7 % 4 = (k : Int) := ⟨(9 + r7 % 4).toNat, by omega⟩
    have n12 : n4 ≤ 12 := by omega
    refine ⟨_, rfl, _, _, rfl, rfl, (by show (0 : Int) < _; decide), _, _, rfl, rfl, ?_⟩
    rw [hn4]
    refine ⟨n4, rfl, by omega, by omega, ?_⟩
    refine comp_new none n4 (fun i => .int (0 + (i : Int))) (fun i us H2 => ∃ as : List Ak, us = Ak.ptL as ∧ Ak.okL as ∧ Ak.sizeL as ≤ i ∧ Ak.deepL as ≤ 1) (by omega) (fun D hD => ⟨[], rfl, trivial, by simp [Ak.sizeL], by simp [Ak.deepL]⟩) (fun i us H2 D ws bt hD iv => iv) (fun l' z => nomatch z) (fun i us H2 hi s iv => hi) (fun i us H2 v H' hi s iv y => ⟨y.2, y.1⟩) (fun us H2 s iv => Nat.le_refl _) (fun i us H2 R hi bt ⟨as, e1, e2, e3, e4⟩ lu k => ?_) (fun D H2 ws us hD bt d2 lu vl ⟨as, e1, e2, e3, e4⟩ => ?_)
    · refine ⟨one_line, fun q1 hq1 => ?_⟩
      have t1 := Same.new (o := .tup [.str "any"]) hq1
      have f1 : upd H2 q1 (.tup [.str "any"]) q1 = some (.tup [.str "any"]) := upd_same
      generalize upd H2 q1 (.tup [.str "any"]) = H3 at t1 f1 ⊢
      refine ⟨_, rfl, two_line, fun q2 hq2 => ?_⟩
      have t2 := Same.new (o := .tup [.str "just", .int (0 + (i : Int))]) hq2
      have f2 : upd H3 q2 (.tup [.str "just", .int (0 + (i : Int))]) q2 = some (.tup [.str "just", .int (0 + (i : Int))]) := upd_same
      generalize upd H3 q2 (.tup [.str "just", .int (0 + (i : Int))]) = H4 at t2 f2 ⊢
      refine ⟨two_line, fun q3 hq3 => ?_⟩
      have t3 := Same.new (o := .lst [.ref q1, .ref q2]) hq3
      have f3 : upd H4 q3 (.lst [.ref q1, .ref q2]) q3 = some (.lst [.ref q1, .ref q2]) := upd_same
      generalize upd H4 q3 (.lst [.ref q1, .ref q2]) = H5 at t3 f3 ⊢
      refine ⟨_, rfl, c, 8, rfl, by decide, fun r8 _ _ => ?_⟩
      have m2 := mod_b (r8 / (0 + (i : Int) + 1)) (n := 2) (by decide)
      obtain ⟨v2, hv2, mv2⟩ := pick_mem (xs := [V.ref q1, V.ref q2]) (i := r8 / (0 + (i : Int) + 1) % 2) m2.1 m2.2
      refine ⟨_, rfl, _, _, rfl, rfl, _, _, rfl, rfl, ⟨by omega, by omega⟩, _, _, rfl, rfl, (by show (0 : Int) < _; decide), q3, _, _, _, rfl, rfl, SqL.of f3, hv2, ?_⟩
      have tt := (t1.trans t2).trans t3
      have add : ∀ a : Ak, a.ok → a.size = 1 → a.deep = 1 → Val (nw H2 H5) v2 a.pt → R v2 H5 := fun a h1 h2 h3 h4 => k v2 a.pt H5 (.of tt) h4 ⟨as ++ [a], by rw [Ak.ptL_append, e1]; rfl, Ak.okL_append e2 (Ak.okL_one h1), by rw [Ak.sizeL_append, Ak.sizeL_one]; omega, by rw [Ak.deepL_append, Ak.deepL_one]; omega⟩
      simp only [List.mem_cons, List.not_mem_nil, or_false] at mv2
      rcases mv2 with rfl | rfl
      · exact add .any trivial rfl rfl (.tup (by rw [nw_new hq1]; exact (t2.trans t3) _ _ f1) (.cons (.str _) .nil))
      · exact add (.just (.int (0 + (i : Int)))) (by simp only [Ak.ok]; exact ⟨.one (.int _), trivial, by simp [Pt.size]⟩) rfl rfl (.tup (by rw [nw_new (t1.free hq2)]; exact t3 _ _ f2) (.cons (.str _) (.cons (.int _) .nil)))
    · subst e1
      have s2 := bt.same
      refine ⟨_, rfl, _, rfl, one_line, fun p1 hp1 => ?_⟩
      have t1 := Same.new (o := .lst [w]) hp1
      have f1 : upd H2 p1 (.lst [w]) p1 = some (.lst [w]) := upd_same
      generalize upd H2 p1 (.lst [w]) = H3 at t1 f1 ⊢
      have lws := vl.length
      refine ⟨D, p1, _, _, rfl, rfl, t1 _ _ d2, f1, le_line (by simp only [List.length_cons, List.length_nil]; omega), fun p2 hp2 => ?_⟩
      have t2 := Same.new (o := .lst (ws ++ [w])) hp2
      have f2 : upd H3 p2 (.lst (ws ++ [w])) p2 = some (.lst (ws ++ [w])) := upd_same
      generalize upd H3 p2 (.lst (ws ++ [w])) = H4 at t2 f2 ⊢
      refine ⟨_, rfl, _, _, rfl, rfl, ⟨by decide, by decide⟩, _, _, rfl, rfl, (by show (0 : Int) < _; decide), rfl, le_line (show 3 ≤ 1000 by decide), fun p3 hp3 => ?_⟩
      generalize decide (V.int (r7 / 4 % 2) = V.int 1) = mo
      have t3 := Same.new (o := .tup [.str "row", .ref p2, .bl mo]) hp3
      have tt := (t1.trans t2).trans t3
      refine ⟨_, rfl, q (.ref p3) (.row (as ++ [b]) mo) _ ((s1.trans s2).trans tt) (.tup upd_same (.cons (.str _) (.cons (.lst (.inl (t3 _ _ f2)) ?_) (.cons (.bl _) .nil)))) (Ak.okL_append e2 (Ak.okL_one bo)) ?_ ?_⟩
      · rw [Ak.ptL_append]
        exact ((vl.up nw_sub).up tt).snoc ((vb.up s2).up tt)
      · simp only [Ak.size]; rw [Ak.sizeL_append, Ak.sizeL_one]; omega
      · simp only [Ak.deep]; rw [Ak.deepL_append, Ak.deepL_one]; omega
end
end K41

set_option Elab.async false
set_option linter.all false
set_option maxRecDepth 100000
set_option maxHeartbeats 40000000
namespace K41
open PySem L2
section
variable {P : Program} {w : World} {K : PySem.W.Frag} {mg : Str → Option Value} {base : Heap}
theorem scLaw : FnScope ["_law_script", "_law_names_here", "_law_drawn", "_law_asks_here", "_law_other", "_law_docs", "_law_k", "_law_kept", "_law_turn", "_law_doc_here", "_law_found"] ["_law_script"] (defScope sLaw) := ⟨rfl, rfl, rfl, by decide +kernel, rfl, by decide +kernel, by decide +kernel⟩
theorem ok_Law {f : Addr} {fd : FuncData} (F : Fun K "law" "law" sLaw f fd) (T : Txt mg) (DLetsIn : Df P w K mg base "lets_in" ["asks", "doc"] 6 spLetsIn) (DCell : Df P w K mg base "_law_cell" ["_law_script", "_law_k"] 1 (spCell K)) (DNames : Df P w K mg base "_law_names" ["_law_cell_here"] 2 spNames4) (DCopy : Df P w K mg base "_law_copy" ["_law_thing"] 45 (spCopyV 45)) (DAsks : Df P w K mg base "_law_asks" ["_law_cells", "_law_deep", "_law_names_here"] 10 (spAsks 10)) (DFit : Df P w K mg base "_law_fit" ["_law_asks_here", "_law_cells", "_law_names_here"] 25 (spFit 25)) (DBent : Df P w K mg base "_law_bent" ["_law_doc_here", "_law_cell_here", "_law_deep", "_law_names_here"] 20 (spBent 20)) (DLets : Df P w K mg base "_law_lets" ["_law_asks_here", "_law_doc_here"] 20 (spLets 20)) (DLarge : Df P w K mg base "_law_large" ["_law_asks_here", "_law_cell_here", "_law_names_here"] 2 spLarge) : FnOk P w K mg base CX0 60 f fd ["_law_script"] (spLaw K) := by
  obtain ⟨fLetsIn, dLetsIn, kLetsIn, bLetsIn, mLetsIn, GLetsIn⟩ := DLetsIn.ex
  obtain ⟨fCell, dCell, kCell, bCell, mCell, GCell⟩ := DCell.ex
  obtain ⟨fNames, dNames, kNames, bNames, mNames, GNames⟩ := DNames.ex
  obtain ⟨fCopy, dCopy, kCopy, bCopy, mCopy, GCopy⟩ := DCopy.ex
  obtain ⟨fAsks, dAsks, kAsks, bAsks, mAsks, GAsks⟩ := DAsks.ex
  obtain ⟨fFit, dFit, kFit, bFit, mFit, GFit⟩ := DFit.ex
  obtain ⟨fBent, dBent, kBent, bBent, mBent, GBent⟩ := DBent.ex
  obtain ⟨fLets, dLets, kLets, bLets, mLets, GLets⟩ := DLets.ex
  obtain ⟨fLarge, dLarge, kLarge, bLarge, mLarge, GLarge⟩ := DLarge.ex
  refine F.ok scLaw (fun vs H Q E h => ?_) (fun cdv A outer s H vs Q E hr h => ?_)
  · obtain ⟨a, ns, rfl, hS, hlen, q⟩ := h
    rfl
  · obtain ⟨a, ns, rfl, hS, hlen, q⟩ := h
    have nd := scLaw.nd
    have hu := hu_of hr
    have hrLetsIn : Room 6 _ := hr.mono (by first | decide | omega)
    have hrCell : Room 1 _ := hr.mono (by first | decide | omega)
    have hrNames : Room 2 _ := hr.mono (by first | decide | omega)
    have hrCopy : Room 45 _ := hr.mono (by first | decide | omega)
    have hrAsks : Room 10 _ := hr.mono (by first | decide | omega)
    have hrFit : Room 25 _ := hr.mono (by first | decide | omega)
    have hrBent : Room 20 _ := hr.mono (by first | decide | omega)
    have hrLets : Room 20 _ := hr.mono (by first | decide | omega)
    have hrLarge : Room 2 _ := hr.mono (by first | decide | omega)
    refine ⟨_, (pss_cons (ps_set (i := 1) nd rfl (Or.inl rfl) (pe_call GNames hrNames rfl mNames kNames bNames .nil pass0 (pa_cons (pe_call GCell hrCell rfl mCell kCell bCell .nil pass0 (pa_cons (pv 0) (pa_cons pe_int pa_nil))) pa_nil)))
      (pss_cons (ps_set (i := 2) nd rfl (Or.inl rfl) (pe_call GAsks hrAsks rfl mAsks kAsks bAsks .nil pass0 (pa_cons (pe_comp (fv := ["_law_script"]) (fs := [0]) rfl (.of (by rfl)) (pi_range1 rfl T.range (pa_cons pe_int pa_nil)) (fun _ _ _ _ => pts_nil) (fun C s0 H0 fp => (pe_call GCell hrCell rfl mCell kCell bCell .nil pass0 (pa_cons (pv 1) (pa_cons (pe_op op_add pe_int (pv 0)) pa_nil))))) (pa_cons pe_int (pa_cons (pv 1) pa_nil)))))
      (pss_cons (ps_set (i := 3) nd rfl (Or.inl rfl) (pe_call GLarge hrLarge rfl mLarge kLarge bLarge .nil pass0 (pa_cons (pv 2) (pa_cons (pe_call GCell hrCell rfl mCell kCell bCell .nil pass0 (pa_cons (pv 0) (pa_cons pe_int pa_nil))) (pa_cons (pv 1) pa_nil)))))
      (pss_cons (ps_set (i := 4) nd rfl (Or.inl rfl) (pe_call GAsks hrAsks rfl mAsks kAsks bAsks .nil pass0 (pa_cons (pe_comp (fv := ["_law_script"]) (fs := [0]) rfl (.of (by rfl)) (pi_range1 rfl T.range (pa_cons pe_int pa_nil)) (fun _ _ _ _ => pts_nil) (fun C s0 H0 fp => (pe_call GCell hrCell rfl mCell kCell bCell .nil pass0 (pa_cons (pv 1) (pa_cons (pe_op op_add pe_int (pv 0)) pa_nil))))) (pa_cons pe_int (pa_cons (pv 1) pa_nil)))))
      (pss_cons (ps_set (i := 5) nd rfl (Or.inl rfl) (pe_lst (pa_cons (pe_call GFit hrFit rfl mFit kFit bFit .nil pass0 (pa_cons (pv 3) (pa_cons (pe_comp (fv := ["_law_script"]) (fs := [0]) rfl (.of (by rfl)) (pi_range1 rfl T.range (pa_cons pe_int pa_nil)) (fun _ _ _ _ => pts_nil) (fun C s0 H0 fp => (pe_call GCell hrCell rfl mCell kCell bCell .nil pass0 (pa_cons (pv 1) (pa_cons (pe_op op_add pe_int (pv 0)) pa_nil))))) (pa_cons (pv 1) pa_nil)))) pa_nil)))
      (pss_cons (ps_for PassesOwn.never rfl (pi_range1 rfl T.range (pa_cons pe_int pa_nil)) (pg_name (i := 6) nd rfl (Or.inl rfl)) (pss_one (ps_expr (pe_bm PySem.F.plainAttrs_list PySem.F.slot_list_append PySem.F.type_list_append mt_append (pv 5) (pa_cons (pe_call GBent hrBent rfl mBent kBent bBent .nil pass0 (pa_cons (pe_ix (r := rIxL K) ix_list (pv 5) pe_int (fun _ _ => rfl)) (pa_cons (pe_call GCell hrCell rfl mCell kCell bCell .nil pass0 (pa_cons (pv 0) (pa_cons (pe_op op_add pe_int (pv 6)) pa_nil))) (pa_cons pe_int (pa_cons (pv 1) pa_nil))))) pa_nil)))))
      (pss_cons (ps_expr (pe_bm PySem.F.plainAttrs_list PySem.F.slot_list_append PySem.F.type_list_append mt_append (pv 5) (pa_cons (pe_call GBent hrBent rfl mBent kBent bBent .nil pass0 (pa_cons (pe_ix (r := rIxL K) ix_list (pv 5) pe_int (fun _ _ => rfl)) (pa_cons (pe_call GCell hrCell rfl mCell kCell bCell .nil pass0 (pa_cons (pv 0) (pa_cons pe_int pa_nil))) (pa_cons pe_int (pa_cons (pv 1) pa_nil))))) pa_nil)))
      (pss_cons (ps_expr (pe_bm PySem.F.plainAttrs_list PySem.F.slot_list_append PySem.F.type_list_append mt_append (pv 5) (pa_cons (pe_call GFit hrFit rfl mFit kFit bFit .nil pass0 (pa_cons (pv 4) (pa_cons (pe_comp (fv := ["_law_script"]) (fs := [0]) rfl (.of (by rfl)) (pi_range1 rfl T.range (pa_cons pe_int pa_nil)) (fun _ _ _ _ => pts_nil) (fun C s0 H0 fp => (pe_call GCell hrCell rfl mCell kCell bCell .nil pass0 (pa_cons (pv 1) (pa_cons (pe_op op_add pe_int (pv 0)) pa_nil))))) (pa_cons (pv 1) pa_nil)))) pa_nil)))
      (pss_cons (ps_set (i := 7) nd rfl (Or.inl rfl) (pe_call GCopy hrCopy rfl mCopy kCopy bCopy .nil pass0 (pa_cons (pe_tup (pa_cons (pv 3) (pa_cons (pv 5) pa_nil))) pa_nil)))
      (pss_cons (ps_for PassesOwn.never rfl (pi_range1 rfl T.range (pa_cons pe_int pa_nil)) (pg_name (i := 8) nd rfl (Or.inl rfl)) (pss_one (ps_for PassesOwn.never rfl (pi_list (pv 5)) (pg_name (i := 9) nd rfl (Or.inl rfl)) (pss_cons (ps_set (i := 10) nd rfl (Or.inl rfl) (pe_call GLetsIn hrLetsIn rfl mLetsIn kLetsIn bLetsIn .nil pass0 (pa_cons (pv 3) (pa_cons (pv 9) pa_nil))))
      (pss_cons (ps_if (PW.pt (pw_or (pt_not (pt_val (pe_callB call_isiN rfl T.isinstance b_isinstance (pa_cons (pv 10) (pa_cons (pe_bltn (v := .ty "bool") rfl T.bool b_bool rfl) pa_nil))))) (pw_or1 (pt_cmpR op_ne (pv 10) (pe_call GLets hrLets rfl mLets kLets bLets .nil pass0 (pa_cons (pv 3) (pa_cons (pv 9) pa_nil))) (nomark _))))) (pss_one (ps_ret pe_bl)) pss_nil)
      (pss_cons (ps_set (i := 10) nd rfl (Or.inl rfl) (pe_call GLetsIn hrLetsIn rfl mLetsIn kLetsIn bLetsIn .nil pass0 (pa_cons (pv 4) (pa_cons (pv 9) pa_nil))))
      (pss_one (ps_if (PW.pt (pw_or (pt_not (pt_val (pe_callB call_isiN rfl T.isinstance b_isinstance (pa_cons (pv 10) (pa_cons (pe_bltn (v := .ty "bool") rfl T.bool b_bool rfl) pa_nil))))) (pw_or1 (pt_cmpR op_ne (pv 10) (pe_call GLets hrLets rfl mLets kLets bLets .nil pass0 (pa_cons (pv 4) (pa_cons (pv 9) pa_nil))) (nomark _))))) (pss_one (ps_ret pe_bl)) pss_nil))))))))
      (pss_one (ps_ret (pe_cmpR (op_eqS (Room.units hr)) (pe_tup (pa_cons (pv 3) (pa_cons (pv 5) pa_nil))) (pv 7) (nomark _)))))))))))))), ?_⟩
    refine ⟨_, rfl, a, ns, 0, rfl, hS, fun c0 _ => ⟨c0, rfl, fun nm ys H1 s1 nn hn => ?_⟩⟩
    refine ⟨14, rfl, by decide, by decide, comp_rel (n := 14) (fun i => .int (0 + (i : Int))) (fun _ v => ∃ z : Int, v = .int z) (by decide) (fun i H2 hi s2 => hi) (fun i H2 v H' hi s2 y => ⟨y.2, y.1⟩) (fun H2 s2 => Nat.le_refl _) (fun i H2 R hi s2 r => ⟨_, rfl, _, rfl, _, _, rfl, rfl, a, ns, 1 + i, (by show [V.ref a, V.int (1 + (0 + (i : Int)))] = _; simp), (s1.trans s2).seq hS, fun c _ => r _ H2 (Same.refl _) ⟨c, rfl⟩⟩) (fun D1 H2 vs1 hD1 s2 d1 lv1 ov1 => ?_)⟩
    obtain ⟨cs1, rfl⟩ := ints_of ov1
    rw [List.length_map] at lv1
    have D1n : nm ≠ D1 := fun z => by rw [← z, hn.at_] at hD1; cases hD1
    refine ⟨_, rfl, D1, 4, nm, cs1, ys, rfl, by decide, d1, by omega, D1n, hn.up s2, fun v1 a1 cs1' H3 bt3 hl3 le3 v3 ok3 sz3 dp3 => ?_⟩
    have s13 : Same H1 H3 := bt3.over s2 hD1
    have S3 := s1.trans s13
    have V1 : Val H3 v1 a1.pt := v3.up nw_sub
    refine ⟨_, rfl, _, rfl, a, ns, 0, rfl, S3.seq hS, fun c1 _ => ⟨_, rfl, v1, a1, c1, nm, ys, rfl, V1, ok3, by omega, by omega, hn.up s13, fun w b H4 s4 vb bo bz bd => ?_⟩⟩
    have S4 := S3.trans s4
    have hn4 := (hn.up s13).up s4
    refine ⟨8, rfl, by decide, by decide, comp_rel (n := 8) (fun i => .int (0 + (i : Int))) (fun _ v => ∃ z : Int, v = .int z) (by decide) (fun i H2 hi s2 => hi) (fun i H2 v H' hi s2 y => ⟨y.2, y.1⟩) (fun H2 s2 => Nat.le_refl _) (fun i H2 R hi s2 r => ⟨_, rfl, _, rfl, _, _, rfl, rfl, a, ns, 15 + i, (by show [V.ref a, V.int (15 + (0 + (i : Int)))] = _; simp), (S4.trans s2).seq hS, fun c _ => r _ H2 (Same.refl _) ⟨c, rfl⟩⟩) (fun D2 H5 vs2 hD2 s5 d2 lv2 ov2 => ?_)⟩
    obtain ⟨cs2, rfl⟩ := ints_of ov2
    rw [List.length_map] at lv2
    have D2n : nm ≠ D2 := fun z => by rw [← z, hn4.at_] at hD2; cases hD2
    refine ⟨_, rfl, D2, 3, nm, cs2, ys, rfl, by decide, d2, by omega, D2n, hn4.up s5, fun v2 a2 cs2' H6 bt6 hl6 le6 v6 ok6 sz6 dp6 => ?_⟩
    have s46 : Same H4 H6 := bt6.over s5 hD2
    have S6 := S4.trans s46
    have hn6 := hn4.up s46
    have vb6 := vb.up s46
    have V2 : Val H6 v2 a2.pt := v6.up nw_sub
    refine ⟨_, rfl, 14, rfl, by decide, by decide, comp_rel (n := 14) (fun i => .int (0 + (i : Int))) (fun _ v => ∃ z : Int, v = .int z) (by decide) (fun i H2 hi s2 => hi) (fun i H2 v H' hi s2 y => ⟨y.2, y.1⟩) (fun H2 s2 => Nat.le_refl _) (fun i H2 R hi s2 r => ⟨_, rfl, _, rfl, _, _, rfl, rfl, a, ns, 23 + i, (by show [V.ref a, V.int (23 + (0 + (i : Int)))] = _; simp), (S6.trans s2).seq hS, fun c _ => r _ H2 (Same.refl _) ⟨c, rfl⟩⟩) (fun D3 H7 vs3 hD3 s7 d3 lv3 ov3 => ?_)⟩
    obtain ⟨cs3, rfl⟩ := ints_of ov3
    rw [List.length_map] at lv3
    have D3n : nm ≠ D3 := fun z => by rw [← z, hn6.at_] at hD3; cases hD3
    refine ⟨_, rfl, w, b, D3, nm, cs3, ys, rfl, vb6.up (hid_over s7 hD3), bo, by omega, by omega, d3, by omega, D3n, hn6.up s7, fun x0 t0 cs3' H8 bt8 hl8 le8 v8 dt0 zt0 pt0 wt0 => ⟨one_line, fun p5 hp5 => ?_⟩⟩
    have s68 : Same H6 H8 := bt8.over s7 hD3
    have S8 := S6.trans s68
    have hn8 := hn6.up s68
    have I0 : DocsI H8 (upd H8 p5 (.lst [x0])) p5 [x0] [t0] := ⟨Same.new hp5, hp5, upd_same, .cons ((v8.up nw_sub).up (hid_over (Same.new hp5) hp5)) .nil⟩
    refine ⟨4, rfl, by decide, by decide, for_range (lo := 0) (n := 4) (fun i σ Hi => ∃ (ws : List V) (us : List Pt) (o6 : Option V), σ = [some (.ref a), some (.ref nm), some v1, some w, some v2, some (.ref p5), o6, none, none, none, none] ∧ DocsI H8 Hi p5 (x0 :: ws) (t0 :: us) ∧ ws.length = i ∧ (∀ u ∈ us, u.doc ∧ u.size ≤ 704 ∧ u.deep ≤ 19 ∧ u.wide ≤ 62)) ⟨[], [], none, rfl, I0, rfl, fun u hu => nomatch hu⟩ ?_ ?_⟩
    · rintro i σ Hi hi ⟨ws, us, o6, rfl, DI, lw, du⟩
      have Vi := DI.v
      cases Vi with
      | cons hx hr =>
        refine ⟨_, rfl, .inl ⟨rfl, _, SqL.of DI.f⟩, _, rfl, p5, _, 0, x0, rfl, rfl, SqL.of DI.f, at0, _, rfl, _, rfl, _, _, rfl, rfl, a, ns, 37 + i, (by show [V.ref a, V.int (37 + (0 + (i : Int)))] = _; simp), (S8.trans DI.s).seq hS, fun c _ => ⟨_, rfl, hid p5 Hi, x0, t0, c, 0, nm, ys, 61, rfl, hid_sub, hx, dt0, by omega, by omega, by decide, by decide, hn8.up DI.s, by decide, by decide, wt0, fun w' t' H' s' v' d' z' p' wd' => ?_⟩⟩
        refine ⟨p5, _, w', rfl, rfl, s' _ _ DI.f, small1000 (by simp only [List.length_cons]; omega), ws ++ [w'], us ++ [t'], _, rfl, DI.push s' (DI.bent s' v'), by simp [lw], fun u hu => ?_⟩
        rcases List.mem_append.mp hu with h | h
        · exact du u h
        · rw [List.mem_singleton.mp h]; exact ⟨d', by omega, by omega, by omega⟩
    rintro σ Hi ⟨ws, us, o6, rfl, DI, lw, du⟩
    have Vi := DI.v
    cases Vi with
    | cons hx hr =>
      cases hr with
      | nil => simp at lw
      | @cons x1 t1 ws us hx1 hr1 =>
        have du1 := du t1 List.mem_cons_self
        refine ⟨_, rfl, .inl ⟨rfl, _, SqL.of DI.f⟩, _, rfl, p5, _, 1, x1, rfl, rfl, SqL.of DI.f, at1, _, rfl, a, ns, 41, rfl, (S8.trans DI.s).seq hS, fun c _ => ⟨_, rfl, hid p5 Hi, x1, t1, c, 0, nm, ys, 62, rfl, hid_sub, hx1, du1.1, by omega, by omega, by decide, by decide, hn8.up DI.s, by decide, by decide, du1.2.2.2, fun w' t' H9 s9 v' d' z' p' wd' => ?_⟩⟩
        have lw' : ws.length = 3 := by simpa using lw
        refine ⟨p5, _, w', rfl, rfl, s9 _ _ DI.f, small1000 (by simp only [List.length_cons]; omega), ?_⟩
        have DI2 := DI.push s9 (DI.bent s9 v')
        generalize upd H9 p5 _ = HA at DI2 ⊢
        have hnA := hn8.up DI2.s
        refine ⟨_, rfl, .inl ⟨rfl, _, SqL.of DI2.f⟩, _, rfl, 8, rfl, by decide, by decide, comp_rel (n := 8) (fun i => .int (0 + (i : Int))) (fun _ v => ∃ z : Int, v = .int z) (by decide) (fun i H2 hi s2 => hi) (fun i H2 v H' hi s2 y => ⟨y.2, y.1⟩) (fun H2 s2 => Nat.le_refl _) (fun i H2 R hi s2 r => ⟨_, rfl, _, rfl, _, _, rfl, rfl, a, ns, 42 + i, (by show [V.ref a, V.int (42 + (0 + (i : Int)))] = _; simp), ((S8.trans DI2.s).trans s2).seq hS, fun c _ => r _ H2 (Same.refl _) ⟨c, rfl⟩⟩) (fun D4 HB vs4 hD4 sB d4 lv4 ov4 => ?_)⟩
        obtain ⟨cs4, rfl⟩ := ints_of ov4
        rw [List.length_map] at lv4
        have D4n : nm ≠ D4 := fun z => by rw [← z, hnA.at_] at hD4; cases hD4
        have V2A := (V2.up s68).up DI2.s
        have vbA := (vb6.up s68).up DI2.s
        refine ⟨_, rfl, v2, a2, D4, nm, cs4, ys, rfl, V2A.up (hid_over sB hD4), ok6, by omega, by omega, d4, by omega, D4n, hnA.up sB, fun x5 t5 cs4' HC btC hlC leC vC dt5 zt5 pt5 wt5 => ?_⟩
        have sAC : Same HA HC := btC.over sB hD4
        refine ⟨p5, _, x5, rfl, rfl, sAC _ _ DI2.f, small1000 (by simp only [List.length_cons, List.length_append, List.length_nil]; omega), ?_⟩
        have DI3 := DI2.push sAC (DI2.fit sB vC)
        obtain ⟨wz, hwz⟩ : ∃ wz, wz = (x0 :: x1 :: ws) ++ [w'] ++ [x5] := ⟨_, rfl⟩
        obtain ⟨uz, huz⟩ : ∃ uz, uz = (t0 :: t1 :: us) ++ [t'] ++ [t5] := ⟨_, rfl⟩
        have sAD : Same HA (upd HC p5 (.lst ((x0 :: x1 :: ws) ++ [w'] ++ [x5]))) → True := fun _ => trivial
        rw [← hwz] at DI3 ⊢
        rw [← huz] at DI3
        generalize upd HC p5 (.lst wz) = HD at DI3 ⊢
        have lus := hr1.length
        have duz : ∀ u ∈ uz, Dc41 u := fun u hu => by
          rw [huz] at hu
          rcases List.mem_append.mp hu with hu | hu
          · rcases List.mem_append.mp hu with hu | hu
            · rcases List.mem_cons.mp hu with rfl | hu
              · exact ⟨dt0, by omega, by omega⟩
              · have := du u hu
                exact ⟨this.1, by omega, by omega⟩
            · rw [List.mem_singleton.mp hu]; exact ⟨d', by omega, by omega⟩
          · rw [List.mem_singleton.mp hu]; exact ⟨dt5, by omega, by omega⟩
        have luz : uz.length ≤ 10 := by rw [huz]; simp; omega
        have lwz : wz.length = uz.length := DI3.v.length
        have vbD := (vb6.up s68).up DI3.s
        have v2D := (V2.up s68).up DI3.s
        have dpu : Pt.deepL uz ≤ 30 := deepL_of fun u hu => (duz u hu).2.2
        have dpb := Ak.deep_pt b bo
        refine ⟨_, rfl, _, rfl, two_line, fun pT hpT => ?_⟩
        have tT := Same.new (o := .tup [w, .ref p5]) hpT
        have fT : upd HD pT (.tup [w, .ref p5]) pT = some (.tup [w, .ref p5]) := upd_same
        generalize upd HD pT (.tup [w, .ref p5]) = HE at tT fT ⊢
        have DI4 := DI3.up tT
        refine ⟨.ref pT, .tup [b.pt, .lst uz], rfl, .tup fT (.cons (vbD.up tT) (.cons (.lst (.inl DI4.f) (DI4.v.up hid_sub)) .nil)), ?_, ?_, fun wK HF sF vK => ?_⟩
        · simp only [Pt.nice, Pt.niceL]
          exact ⟨by simp, Ak.ok_nice b bo (by omega), ⟨by omega, Pt.niceL_of fun u hu => Pt.doc_nice u (duz u hu).1 (by have := (duz u hu).2.1; omega)⟩, trivial⟩
        · simp only [Pt.deep, Pt.deepL]; omega
        obtain ⟨pK, rfl⟩ : ∃ p, wK = .ref p := by cases vK; exact ⟨_, rfl⟩
        have vKF := vK.up nw_sub
        have DI5 := DI4.up sF
        have SF := tT.trans sF
        refine ⟨2, rfl, by decide, by decide, for_range (lo := 0) (n := 2) (fun i σ Hi => ∃ o6 o8 o9 o10 : Option V, σ = [some (.ref a), some (.ref nm), some v1, some w, some v2, some (.ref p5), o6, some (.ref pK), o8, o9, o10] ∧ Same HF Hi) ⟨_, none, none, none, rfl, Same.refl _⟩ ?_ ?_⟩
        · rintro i σ Hi hi ⟨o6, o8, o9, o10, rfl, si⟩
          refine ⟨_, rfl, p5, rfl, ⟨_, SqL.of (si _ _ DI5.f)⟩, for_list (xs := wz) (fun j σ Hj => ∃ o6 o8 o9 o10 : Option V, σ = [some (.ref a), some (.ref nm), some v1, some w, some v2, some (.ref p5), o6, some (.ref pK), o8, o9, o10] ∧ Same HF Hj) ⟨o6, _, o9, o10, rfl, si⟩ (fun j σ Hj _ ⟨_, _, _, _, _, sj⟩ => SqL.of (sj _ _ DI5.f)) ?_ ?_⟩
          · rintro j x σ Hj hx ⟨o6, o8, o9, o10, rfl, sj⟩
            obtain ⟨u, hu, vu⟩ := (DI5.v.up hid_sub).get hx
            have dc := duz u (List.mem_of_getElem? hu)
            obtain ⟨dc1, dc2, dc3⟩ := dc
            have vbF := (vbD.up SF).up sj
            have v2F := (v2D.up SF).up sj
            have vuj := vu.up sj
            refine ⟨_, rfl, _, rfl, w, x, b, u, rfl, vbF, vuj, bo, dc1, by omega, by omega, fun Hk sk => ?_⟩
            refine ⟨_, rfl, _, "bool", "bool", rfl, rfl, .bl _, _, rfl, iteF ?_⟩
            refine ⟨_, rfl, _, rfl, _, rfl, w, x, b, u, rfl, vbF.up sk, vuj.up sk, bo, dc1, by omega, by omega, by omega, fun Hl sl => ⟨rfl, _, rfl, iteBF (by simp) ?_⟩⟩
            have sl2 := sk.trans sl
            refine ⟨_, rfl, _, rfl, v2, x, a2, u, rfl, v2F.up sl2, vuj.up sl2, ok6, dc1, by omega, by omega, fun Hm sm => ?_⟩
            refine ⟨_, rfl, _, "bool", "bool", rfl, rfl, .bl _, _, rfl, iteF ?_⟩
            have sm2 := sl2.trans sm
            refine ⟨_, rfl, _, rfl, _, rfl, v2, x, a2, u, rfl, v2F.up sm2, vuj.up sm2, ok6, dc1, by omega, by omega, by omega, fun Hn sn => ⟨rfl, _, rfl, iteBF (by simp) ⟨_, _, _, _, rfl, (sj.trans sm2).trans sn⟩⟩⟩
          · rintro σ Hj ⟨o6, o8, o9, o10, rfl, sj⟩
            exact ⟨o6, o8, o9, o10, rfl, sj⟩
        · rintro σ Hi ⟨o6, o8, o9, o10, rfl, si⟩
          refine ⟨_, rfl, _, rfl, two_line, fun pU hpU => ?_⟩
          have tU := Same.new (o := .tup [w, .ref p5]) hpU
          have DI6 := (DI5.up si).up tU
          exact ⟨_, rfl, pU, pK, .tup [b.pt, .lst uz], rfl, rfl, .tup upd_same (.cons (((vbD.up SF).up si).up tU) (.cons (.lst (.inl DI6.f) (DI6.v.up hid_sub)) .nil)), (vKF.up si).up tU, by simp only [Pt.deep, Pt.deepL]; omega, q _⟩
end
end K41

set_option Elab.async false
set_option linter.all false
set_option maxRecDepth 100000
set_option maxHeartbeats 40000000
namespace K41
open PySem L2
theorem len_1 (us : List Value) (h : us.length = 1) : ∃ x0, us = [x0] := by
  rcases us with _ | ⟨x0, us⟩ <;> simp only [List.length_cons, List.length_nil] at h <;> try omega
  rcases us with _ | ⟨y, us⟩ <;> simp only [List.length_cons, List.length_nil] at h <;> try omega
  exact ⟨x0, rfl⟩
theorem len_2 (us : List Value) (h : us.length = 2) : ∃ x0 x1, us = [x0, x1] := by
  rcases us with _ | ⟨x0, us⟩ <;> simp only [List.length_cons, List.length_nil] at h <;> try omega
  rcases us with _ | ⟨x1, us⟩ <;> simp only [List.length_cons, List.length_nil] at h <;> try omega
  rcases us with _ | ⟨y, us⟩ <;> simp only [List.length_cons, List.length_nil] at h <;> try omega
  exact ⟨x0, x1, rfl⟩
theorem len_3 (us : List Value) (h : us.length = 3) : ∃ x0 x1 x2, us = [x0, x1, x2] := by
  rcases us with _ | ⟨x0, us⟩ <;> simp only [List.length_cons, List.length_nil] at h <;> try omega
  rcases us with _ | ⟨x1, us⟩ <;> simp only [List.length_cons, List.length_nil] at h <;> try omega
  rcases us with _ | ⟨x2, us⟩ <;> simp only [List.length_cons, List.length_nil] at h <;> try omega
  rcases us with _ | ⟨y, us⟩ <;> simp only [List.length_cons, List.length_nil] at h <;> try omega
  exact ⟨x0, x1, x2, rfl⟩
theorem len_4 (us : List Value) (h : us.length = 4) : ∃ x0 x1 x2 x3, us = [x0, x1, x2, x3] := by
  rcases us with _ | ⟨x0, us⟩ <;> simp only [List.length_cons, List.length_nil] at h <;> try omega
  rcases us with _ | ⟨x1, us⟩ <;> simp only [List.length_cons, List.length_nil] at h <;> try omega
  rcases us with _ | ⟨x2, us⟩ <;> simp only [List.length_cons, List.length_nil] at h <;> try omega
  rcases us with _ | ⟨x3, us⟩ <;> simp only [List.length_cons, List.length_nil] at h <;> try omega
  rcases us with _ | ⟨y, us⟩ <;> simp only [List.length_cons, List.length_nil] at h <;> try omega
  exact ⟨x0, x1, x2, x3, rfl⟩
theorem all_mk {l : PySem.W.OpenLaw} {w : World} {K : PySem.W.Frag} {h : Heap} {mg : Str → Option Value} {fa f1 f2 f3 f4 f5 f6 f7 f8 f9 f10 f11 f12 f13 f14 f15 f16 f17 f18 f19 f20 : Addr} (X : K.In h) (G : h.Ns mainGlobals mg) (hfa : mg "law" = some (.ref fa))
    {od1 an1 od2 an2 od3 an3 od4 an4 od5 an5 od6 an6 od7 an7 od8 an8 od9 an9 od10 an10 od11 an11 od12 an12 od13 an13 od14 an14 od15 an15 od16 an16 od17 an17 od18 an18 od19 an19 od20 an20 : Option Addr} {sl1 sl2 sl3 sl4 sl5 sl6 sl7 sl8 sl9 sl10 sl11 sl12 sl13 sl14 sl15 sl16 sl17 sl18 sl19 sl20 : Array (Option Value)} {oc1 kV1 dc1 pm1 cd1 ct1 oc2 kV2 dc2 pm2 cd2 ct2 oc3 kV3 dc3 pm3 cd3 ct3 oc4 kV4 dc4 pm4 cd4 ct4 oc5 kV5 dc5 pm5 cd5 ct5 oc6 kV6 dc6 pm6 cd6 ct6 oc7 kV7 dc7 pm7 cd7 ct7 oc8 kV8 dc8 pm8 cd8 ct8 oc9 kV9 dc9 pm9 cd9 ct9 oc10 kV10 dc10 pm10 cd10 ct10 oc11 kV11 dc11 pm11 cd11 ct11 oc12 kV12 dc12 pm12 cd12 ct12 oc13 kV13 dc13 pm13 cd13 ct13 oc14 kV14 dc14 pm14 cd14 ct14 oc15 kV15 dc15 pm15 cd15 ct15 oc16 kV16 dc16 pm16 cd16 ct16 oc17 kV17 dc17 pm17 cd17 ct17 oc18 kV18 dc18 pm18 cd18 ct18 oc19 kV19 dc19 pm19 cd19 ct19 oc20 kV20 dc20 pm20 cd20 ct20 : Value}
    (a1 : PySem.W.nsIn K mainGlobals "steps_of" = some (some (.ref f1))) (l1 : K.lookup f1 = some ⟨oc1, od1, .func (PySem.W.fnOf "steps_of" "steps_of" (defArgs sStepsOf) (defBody sStepsOf) (defScope sStepsOf) .none kV1 dc1 pm1 an1 cd1 ct1), sl1⟩) (c1 : PySem.W.codeIn K cd1 "steps_of" = true) (k1 : PySem.W.keepIn K (.ref f1) = true)
    (a2 : PySem.W.nsIn K mainGlobals "inner_of" = some (some (.ref f2))) (l2 : K.lookup f2 = some ⟨oc2, od2, .func (PySem.W.fnOf "inner_of" "inner_of" (defArgs sInnerOf) (defBody sInnerOf) (defScope sInnerOf) .none kV2 dc2 pm2 an2 cd2 ct2), sl2⟩) (c2 : PySem.W.codeIn K cd2 "inner_of" = true) (k2 : PySem.W.keepIn K (.ref f2) = true)
    (a3 : PySem.W.nsIn K mainGlobals "are_level" = some (some (.ref f3))) (l3 : K.lookup f3 = some ⟨oc3, od3, .func (PySem.W.fnOf "are_level" "are_level" (defArgs sAreLevel) (defBody sAreLevel) (defScope sAreLevel) .none kV3 dc3 pm3 an3 cd3 ct3), sl3⟩) (c3 : PySem.W.codeIn K cd3 "are_level" = true) (k3 : PySem.W.keepIn K (.ref f3) = true)
    (a4 : PySem.W.nsIn K mainGlobals "are_equal" = some (some (.ref f4))) (l4 : K.lookup f4 = some ⟨oc4, od4, .func (PySem.W.fnOf "are_equal" "are_equal" (defArgs sAreEqual) (defBody sAreEqual) (defScope sAreEqual) .none kV4 dc4 pm4 an4 cd4 ct4), sl4⟩) (c4 : PySem.W.codeIn K cd4 "are_equal" = true) (k4 : PySem.W.keepIn K (.ref f4) = true)
    (a5 : PySem.W.nsIn K mainGlobals "holder_in" = some (some (.ref f5))) (l5 : K.lookup f5 = some ⟨oc5, od5, .func (PySem.W.fnOf "holder_in" "holder_in" (defArgs sHolderIn) (defBody sHolderIn) (defScope sHolderIn) .none kV5 dc5 pm5 an5 cd5 ct5), sl5⟩) (c5 : PySem.W.codeIn K cd5 "holder_in" = true) (k5 : PySem.W.keepIn K (.ref f5) = true)
    (a6 : PySem.W.nsIn K mainGlobals "lets_in" = some (some (.ref f6))) (l6 : K.lookup f6 = some ⟨oc6, od6, .func (PySem.W.fnOf "lets_in" "lets_in" (defArgs sLetsIn) (defBody sLetsIn) (defScope sLetsIn) .none kV6 dc6 pm6 an6 cd6 ct6), sl6⟩) (c6 : PySem.W.codeIn K cd6 "lets_in" = true) (k6 : PySem.W.keepIn K (.ref f6) = true)
    (a7 : PySem.W.nsIn K mainGlobals "lets_in_outside" = some (some (.ref f7))) (l7 : K.lookup f7 = some ⟨oc7, od7, .func (PySem.W.fnOf "lets_in_outside" "lets_in_outside" (defArgs sLetsInOutside) (defBody sLetsInOutside) (defScope sLetsInOutside) .none kV7 dc7 pm7 an7 cd7 ct7), sl7⟩) (c7 : PySem.W.codeIn K cd7 "lets_in_outside" = true) (k7 : PySem.W.keepIn K (.ref f7) = true)
    (a8 : PySem.W.nsIn K mainGlobals "is_count" = some (some (.ref f8))) (l8 : K.lookup f8 = some ⟨oc8, od8, .func (PySem.W.fnOf "is_count" "is_count" (defArgs sIsCount) (defBody sIsCount) (defScope sIsCount) .none kV8 dc8 pm8 an8 cd8 ct8), sl8⟩) (c8 : PySem.W.codeIn K cd8 "is_count" = true) (k8 : PySem.W.keepIn K (.ref f8) = true)
    (a9 : PySem.W.nsIn K mainGlobals "has_names" = some (some (.ref f9))) (l9 : K.lookup f9 = some ⟨oc9, od9, .func (PySem.W.fnOf "has_names" "has_names" (defArgs sHasNames) (defBody sHasNames) (defScope sHasNames) .none kV9 dc9 pm9 an9 cd9 ct9), sl9⟩) (c9 : PySem.W.codeIn K cd9 "has_names" = true) (k9 : PySem.W.keepIn K (.ref f9) = true)
    (a10 : PySem.W.nsIn K mainGlobals "_law_cell" = some (some (.ref f10))) (l10 : K.lookup f10 = some ⟨oc10, od10, .func (PySem.W.fnOf "_law_cell" "_law_cell" (defArgs sCell) (defBody sCell) (defScope sCell) .none kV10 dc10 pm10 an10 cd10 ct10), sl10⟩) (c10 : PySem.W.codeIn K cd10 "_law_cell" = true) (k10 : PySem.W.keepIn K (.ref f10) = true)
    (a11 : PySem.W.nsIn K mainGlobals "_law_mix" = some (some (.ref f11))) (l11 : K.lookup f11 = some ⟨oc11, od11, .func (PySem.W.fnOf "_law_mix" "_law_mix" (defArgs sMix) (defBody sMix) (defScope sMix) .none kV11 dc11 pm11 an11 cd11 ct11), sl11⟩) (c11 : PySem.W.codeIn K cd11 "_law_mix" = true) (k11 : PySem.W.keepIn K (.ref f11) = true)
    (a12 : PySem.W.nsIn K mainGlobals "_law_names" = some (some (.ref f12))) (l12 : K.lookup f12 = some ⟨oc12, od12, .func (PySem.W.fnOf "_law_names" "_law_names" (defArgs sNames) (defBody sNames) (defScope sNames) .none kV12 dc12 pm12 an12 cd12 ct12), sl12⟩) (c12 : PySem.W.codeIn K cd12 "_law_names" = true) (k12 : PySem.W.keepIn K (.ref f12) = true)
    (a13 : PySem.W.nsIn K mainGlobals "_law_doc" = some (some (.ref f13))) (l13 : K.lookup f13 = some ⟨oc13, od13, .func (PySem.W.fnOf "_law_doc" "_law_doc" (defArgs sDoc) (defBody sDoc) (defScope sDoc) .none kV13 dc13 pm13 an13 cd13 ct13), sl13⟩) (c13 : PySem.W.codeIn K cd13 "_law_doc" = true) (k13 : PySem.W.keepIn K (.ref f13) = true)
    (a14 : PySem.W.nsIn K mainGlobals "_law_copy" = some (some (.ref f14))) (l14 : K.lookup f14 = some ⟨oc14, od14, .func (PySem.W.fnOf "_law_copy" "_law_copy" (defArgs sCopy) (defBody sCopy) (defScope sCopy) .none kV14 dc14 pm14 an14 cd14 ct14), sl14⟩) (c14 : PySem.W.codeIn K cd14 "_law_copy" = true) (k14 : PySem.W.keepIn K (.ref f14) = true)
    (a15 : PySem.W.nsIn K mainGlobals "_law_asks" = some (some (.ref f15))) (l15 : K.lookup f15 = some ⟨oc15, od15, .func (PySem.W.fnOf "_law_asks" "_law_asks" (defArgs sAsks) (defBody sAsks) (defScope sAsks) .none kV15 dc15 pm15 an15 cd15 ct15), sl15⟩) (c15 : PySem.W.codeIn K cd15 "_law_asks" = true) (k15 : PySem.W.keepIn K (.ref f15) = true)
    (a16 : PySem.W.nsIn K mainGlobals "_law_fit" = some (some (.ref f16))) (l16 : K.lookup f16 = some ⟨oc16, od16, .func (PySem.W.fnOf "_law_fit" "_law_fit" (defArgs sFit) (defBody sFit) (defScope sFit) .none kV16 dc16 pm16 an16 cd16 ct16), sl16⟩) (c16 : PySem.W.codeIn K cd16 "_law_fit" = true) (k16 : PySem.W.keepIn K (.ref f16) = true)
    (a17 : PySem.W.nsIn K mainGlobals "_law_bent" = some (some (.ref f17))) (l17 : K.lookup f17 = some ⟨oc17, od17, .func (PySem.W.fnOf "_law_bent" "_law_bent" (defArgs sBent) (defBody sBent) (defScope sBent) .none kV17 dc17 pm17 an17 cd17 ct17), sl17⟩) (c17 : PySem.W.codeIn K cd17 "_law_bent" = true) (k17 : PySem.W.keepIn K (.ref f17) = true)
    (a18 : PySem.W.nsIn K mainGlobals "_law_lets" = some (some (.ref f18))) (l18 : K.lookup f18 = some ⟨oc18, od18, .func (PySem.W.fnOf "_law_lets" "_law_lets" (defArgs sLets) (defBody sLets) (defScope sLets) .none kV18 dc18 pm18 an18 cd18 ct18), sl18⟩) (c18 : PySem.W.codeIn K cd18 "_law_lets" = true) (k18 : PySem.W.keepIn K (.ref f18) = true)
    (a19 : PySem.W.nsIn K mainGlobals "_law_large" = some (some (.ref f19))) (l19 : K.lookup f19 = some ⟨oc19, od19, .func (PySem.W.fnOf "_law_large" "_law_large" (defArgs sLarge) (defBody sLarge) (defScope sLarge) .none kV19 dc19 pm19 an19 cd19 ct19), sl19⟩) (c19 : PySem.W.codeIn K cd19 "_law_large" = true) (k19 : PySem.W.keepIn K (.ref f19) = true)
    (a20 : PySem.W.nsIn K mainGlobals "law" = some (some (.ref f20))) (l20 : K.lookup f20 = some ⟨oc20, od20, .func (PySem.W.fnOf "law" "law" (defArgs sLaw) (defBody sLaw) (defScope sLaw) .none kV20 dc20 pm20 an20 cd20 ct20), sl20⟩) (c20 : PySem.W.codeIn K cd20 "law" = true) (k20 : PySem.W.keepIn K (.ref f20) = true)
    (z1 : PySem.W.nsIn K mainGlobals "isinstance" = some none)
    (z2 : PySem.W.nsIn K mainGlobals "int" = some none)
    (z3 : PySem.W.nsIn K mainGlobals "bool" = some none)
    (z4 : PySem.W.nsIn K mainGlobals "str" = some none)
    (z5 : PySem.W.nsIn K mainGlobals "list" = some none)
    (z6 : PySem.W.nsIn K mainGlobals "dict" = some none)
    (z7 : PySem.W.nsIn K mainGlobals "tuple" = some none)
    (z8 : PySem.W.nsIn K mainGlobals "len" = some none)
    (z9 : PySem.W.nsIn K mainGlobals "range" = some none)
    (z10 : PySem.W.nsIn K mainGlobals "max" = some none)
    (z11 : PySem.W.nsIn K mainGlobals "min" = some none)
    (z12 : PySem.W.nsIn K mainGlobals "sorted" = some none)
    (z13 : PySem.W.nsIn K mainGlobals "all" = some none)
    (z14 : PySem.W.nsIn K mainGlobals "any" = some none)
    (z15 : PySem.W.nsIn K mainGlobals "reversed" = some none)
    (z16 : PySem.W.nsIn K mainGlobals "ValueError" = some none)
    (z17 : PySem.W.nsIn K mainGlobals "sum" = some none)
    
    (zZ : PySem.W.nsIn K mainGlobals "zip" = some none)
    : ∃ fd : FuncData, (∀ (s : Shared) (v : Value), BindsTo s fd ⟨[v], []⟩ [("_law_script", v)]) ∧ ∀ base : Heap, K.In base → base.Ns mainGlobals mg → FnOk l.prog w K mg base CX0 60 fa fd ["_law_script"] (spLaw K) := by
  have e := hfa.symm.trans (PySem.W.mg_of X G a20)
  cases e
  have T : Txt mg := ⟨PySem.W.mg_none_of X G z1, PySem.W.mg_none_of X G z2, PySem.W.mg_none_of X G z3, PySem.W.mg_none_of X G z4, PySem.W.mg_none_of X G z5, PySem.W.mg_none_of X G z6, PySem.W.mg_none_of X G z7, PySem.W.mg_none_of X G z8, PySem.W.mg_none_of X G z9, PySem.W.mg_none_of X G z10, PySem.W.mg_none_of X G z11, PySem.W.mg_none_of X G z12, PySem.W.mg_none_of X G z13, PySem.W.mg_none_of X G z14, PySem.W.mg_none_of X G z15, PySem.W.mg_none_of X G z16, PySem.W.mg_none_of X G z17⟩
  have F1 := fun_mk (st := sStepsOf) l1 c1 k1
  have b1 := F1.binds (ps := ["doc"]) fun _ _ _ _ _ _ us hl => by obtain ⟨x0, rfl⟩ := len_1 us hl; rfl
  have m1 := PySem.W.mg_of X G a1
  have F2 := fun_mk (st := sInnerOf) l2 c2 k2
  have b2 := F2.binds (ps := ["doc"]) fun _ _ _ _ _ _ us hl => by obtain ⟨x0, rfl⟩ := len_1 us hl; rfl
  have m2 := PySem.W.mg_of X G a2
  have F3 := fun_mk (st := sAreLevel) l3 c3 k3
  have b3 := F3.binds (ps := ["one", "other"]) fun _ _ _ _ _ _ us hl => by obtain ⟨x0, x1, rfl⟩ := len_2 us hl; rfl
  have m3 := PySem.W.mg_of X G a3
  have F4 := fun_mk (st := sAreEqual) l4 c4 k4
  have b4 := F4.binds (ps := ["one", "other"]) fun _ _ _ _ _ _ us hl => by obtain ⟨x0, x1, rfl⟩ := len_2 us hl; rfl
  have m4 := PySem.W.mg_of X G a4
  have F5 := fun_mk (st := sHolderIn) l5 c5 k5
  have b5 := F5.binds (ps := ["node"]) fun _ _ _ _ _ _ us hl => by obtain ⟨x0, rfl⟩ := len_1 us hl; rfl
  have m5 := PySem.W.mg_of X G a5
  have F6 := fun_mk (st := sLetsIn) l6 c6 k6
  have b6 := F6.binds (ps := ["asks", "doc"]) fun _ _ _ _ _ _ us hl => by obtain ⟨x0, x1, rfl⟩ := len_2 us hl; rfl
  have m6 := PySem.W.mg_of X G a6
  have F7 := fun_mk (st := sLetsInOutside) l7 c7 k7
  have b7 := F7.binds (ps := ["asks", "doc"]) fun _ _ _ _ _ _ us hl => by obtain ⟨x0, x1, rfl⟩ := len_2 us hl; rfl
  have m7 := PySem.W.mg_of X G a7
  have F8 := fun_mk (st := sIsCount) l8 c8 k8
  have b8 := F8.binds (ps := ["count", "least", "more"]) fun _ _ _ _ _ _ us hl => by obtain ⟨x0, x1, x2, rfl⟩ := len_3 us hl; rfl
  have m8 := PySem.W.mg_of X G a8
  have F9 := fun_mk (st := sHasNames) l9 c9 k9
  have b9 := F9.binds (ps := ["asks", "doc"]) fun _ _ _ _ _ _ us hl => by obtain ⟨x0, x1, rfl⟩ := len_2 us hl; rfl
  have m9 := PySem.W.mg_of X G a9
  have F10 := fun_mk (st := sCell) l10 c10 k10
  have b10 := F10.binds (ps := ["_law_script", "_law_k"]) fun _ _ _ _ _ _ us hl => by obtain ⟨x0, x1, rfl⟩ := len_2 us hl; rfl
  have m10 := PySem.W.mg_of X G a10
  have F11 := fun_mk (st := sMix) l11 c11 k11
  have b11 := F11.binds (ps := ["_law_cell_here", "_law_k"]) fun _ _ _ _ _ _ us hl => by obtain ⟨x0, x1, rfl⟩ := len_2 us hl; rfl
  have m11 := PySem.W.mg_of X G a11
  have F12 := fun_mk (st := sNames) l12 c12 k12
  have b12 := F12.binds (ps := ["_law_cell_here"]) fun _ _ _ _ _ _ us hl => by obtain ⟨x0, rfl⟩ := len_1 us hl; rfl
  have m12 := PySem.W.mg_of X G a12
  have F13 := fun_mk (st := sDoc) l13 c13 k13
  have b13 := F13.binds (ps := ["_law_cell_here", "_law_k", "_law_names_here"]) fun _ _ _ _ _ _ us hl => by obtain ⟨x0, x1, x2, rfl⟩ := len_3 us hl; rfl
  have m13 := PySem.W.mg_of X G a13
  have F14 := fun_mk (st := sCopy) l14 c14 k14
  have b14 := F14.binds (ps := ["_law_thing"]) fun _ _ _ _ _ _ us hl => by obtain ⟨x0, rfl⟩ := len_1 us hl; rfl
  have m14 := PySem.W.mg_of X G a14
  have F15 := fun_mk (st := sAsks) l15 c15 k15
  have b15 := F15.binds (ps := ["_law_cells", "_law_deep", "_law_names_here"]) fun _ _ _ _ _ _ us hl => by obtain ⟨x0, x1, x2, rfl⟩ := len_3 us hl; rfl
  have m15 := PySem.W.mg_of X G a15
  have F16 := fun_mk (st := sFit) l16 c16 k16
  have b16 := F16.binds (ps := ["_law_asks_here", "_law_cells", "_law_names_here"]) fun _ _ _ _ _ _ us hl => by obtain ⟨x0, x1, x2, rfl⟩ := len_3 us hl; rfl
  have m16 := PySem.W.mg_of X G a16
  have F17 := fun_mk (st := sBent) l17 c17 k17
  have b17 := F17.binds (ps := ["_law_doc_here", "_law_cell_here", "_law_deep", "_law_names_here"]) fun _ _ _ _ _ _ us hl => by obtain ⟨x0, x1, x2, x3, rfl⟩ := len_4 us hl; rfl
  have m17 := PySem.W.mg_of X G a17
  have F18 := fun_mk (st := sLets) l18 c18 k18
  have b18 := F18.binds (ps := ["_law_asks_here", "_law_doc_here"]) fun _ _ _ _ _ _ us hl => by obtain ⟨x0, x1, rfl⟩ := len_2 us hl; rfl
  have m18 := PySem.W.mg_of X G a18
  have F19 := fun_mk (st := sLarge) l19 c19 k19
  have b19 := F19.binds (ps := ["_law_asks_here", "_law_cell_here", "_law_names_here"]) fun _ _ _ _ _ _ us hl => by obtain ⟨x0, x1, x2, rfl⟩ := len_3 us hl; rfl
  have m19 := PySem.W.mg_of X G a19
  have F20 := fun_mk (st := sLaw) l20 c20 k20
  have hzip := PySem.W.mg_none_of X G zZ
  refine ⟨PySem.W.fnOf "law" "law" (defArgs sLaw) (defBody sLaw) (defScope sLaw) .none kV20 dc20 pm20 an20 cd20 ct20, fun s v => .of_eq rfl, fun base _ _ => ?_⟩
  have DStepsOf0 : Df l.prog w K mg base "steps_of" ["doc"] 1 spStepsV := Df.mk' F1 b1 m1 (ok_StepsOf F1 T)
  have DHolderIn1 : Df l.prog w K mg base "holder_in" ["node"] 1 spHoldIn := Df.mk' F5 b5 m5 (ok_HolderIn F5 T)
  have DInnerOf2 : Df l.prog w K mg base "inner_of" ["doc"] 2 spInnerV := Df.mk' F2 b2 m2 (ok_InnerOf F2 T DStepsOf0)
  have DAreLevel3 : Df l.prog w K mg base "are_level" ["one", "other"] 1 spLevel := Df.mk' F3 b3 m3 (ok_AreLevel F3 T)
  have DAreEqual2 : Df l.prog w K mg base "are_equal" ["one", "other"] 4 spEqual := Df.mk' F4 b4 m4 (ok_AreEqual F4 T DInnerOf2 DAreLevel3 hzip)
  have DIsCount5 : Df l.prog w K mg base "is_count" ["count", "least", "more"] 1 spCount := Df.mk' F8 b8 m8 (ok_IsCount F8 T)
  have DHasNames6 : Df l.prog w K mg base "has_names" ["asks", "doc"] 2 spNamesIn := Df.mk' F9 b9 m9 (ok_HasNames F9 T DIsCount5)
  have DLetsInOutside2 : Df l.prog w K mg base "lets_in_outside" ["asks", "doc"] 5 spOut := Df.mk' F7 b7 m7 (ok_LetsInOutside F7 T DAreEqual2 DIsCount5 DHasNames6)
  have DLetsIn0 : Df l.prog w K mg base "lets_in" ["asks", "doc"] 6 spLetsIn := Df.mk' F6 b6 m6 (ok_LetsIn F6 T DStepsOf0 DHolderIn1 DLetsInOutside2)
  have DCell9 : Df l.prog w K mg base "_law_cell" ["_law_script", "_law_k"] 1 (spCell K) := Df.mk' F10 b10 m10 (ok_Cell F10 T)
  have DMix10 : Df l.prog w K mg base "_law_mix" ["_law_cell_here", "_law_k"] 1 spMix := Df.mk' F11 b11 m11 (okW_Mix F11 T)
  have DNames10 : Df l.prog w K mg base "_law_names" ["_law_cell_here"] 2 spNames4 := Df.mk' F12 b12 m12 (ok_Names F12 T DMix10)
  have DCopy12 : Df l.prog w K mg base "_law_copy" ["_law_thing"] 45 (spCopyV 45) := Df.mk' F14 b14 m14 (all_Copy F14 T b14 m14 45)
  have DDoc13 : Df l.prog w K mg base "_law_doc" ["_law_cell_here", "_law_k", "_law_names_here"] 2 spDocV := Df.mk' F13 b13 m13 (ok_Doc F13 T DMix10)
  have DAsks13 : Df l.prog w K mg base "_law_asks" ["_law_cells", "_law_deep", "_law_names_here"] 10 (spAsks 10) := Df.mk' F15 b15 m15 (all_Asks F15 T b15 m15 DMix10 DDoc13 10)
  have DCopy15 : Df l.prog w K mg base "_law_copy" ["_law_thing"] 6 (spCopyV 6) := Df.mk' F14 b14 m14 (all_Copy F14 T b14 m14 6)
  have DFit15 : Df l.prog w K mg base "_law_fit" ["_law_asks_here", "_law_cells", "_law_names_here"] 25 (spFit 25) := Df.mk' F16 b16 m16 (all_Fit F16 T b16 m16 DMix10 DDoc13 DCopy15 25)
  have DBent17 : Df l.prog w K mg base "_law_bent" ["_law_doc_here", "_law_cell_here", "_law_deep", "_law_names_here"] 20 (spBent 20) := Df.mk' F17 b17 m17 (all_Bent F17 T b17 m17 DMix10 DDoc13 20)
  have DLets18 : Df l.prog w K mg base "_law_lets" ["_law_asks_here", "_law_doc_here"] 20 (spLets 20) := Df.mk' F18 b18 m18 (all_Lets F18 T b18 m18 20)
  have DLarge19 : Df l.prog w K mg base "_law_large" ["_law_asks_here", "_law_cell_here", "_law_names_here"] 2 spLarge := Df.mk' F19 b19 m19 (ok_Large F19 T DMix10)
  exact ok_Law F20 T DLetsIn0 DCell9 DNames10 DCopy12 DAsks13 DFit15 DBent17 DLets18 DLarge19
theorem walk {l : PySem.W.OpenLaw} {q : Program} {loose : List Str} {XP : (Str → Option Value) → Heap → Prop} {YP : World → Heap → Prop} {d : DefRec} {K : Params → PySem.W.Frag} (hn : l.most = some 63) (hdf : d.params.defaults = [])
    (hY : ∀ (w : World) (h : Heap), YP w h → (K w.params).In h)
    (F : ∀ (w : World) (mg : Str → Option Value) (fa : Addr) (h : Heap), (K w.params).In h → h.Ns mainGlobals mg → mg d.name = some (.ref fa) →
      ∃ fd : FuncData, (∀ (s : Shared) (u : Value), BindsTo s fd ⟨[u], []⟩ [("_law_script", u)]) ∧ ∀ base : Heap, (K w.params).In base → base.Ns mainGlobals mg → FnOk l.prog w (K w.params) mg base CX0 60 fa fd ["_law_script"] (spLaw (K w.params))) :
    PySem.W.WalkO q loose XP YP l.row.toRowW d [] (fun f vs => PySem.call f vs) :=
  L2.walk_of (n := 63) (k := 60) (x := "_law_script") (CX := fun _ => CX0) (sp := fun w => spLaw (K w.params)) hn (by decide) hdf ⟨rfl, by decide, by decide, rfl⟩ hY F (fun _ _ a ns hl _ hS => ⟨a, ns, rfl, hS, hl, fun _ => rfl⟩) fun _ _ _ _ _ z => z
theorem walkZ {l : PySem.W.OpenLaw} {q : Program} {loose : List Str} {XP : (Str → Option Value) → Heap → Prop} {d : DefRec} {K : Params → PySem.W.Frag} {as : List Addr} {n t : Nat} (e : ∀ P : Params, as = List.map (fun x => x.fst) (K P)) (hn : l.most = some 63) (hdf : d.params.defaults = [])
    (F : ∀ (w : World) (mg : Str → Option Value) (fa : Addr) (h : Heap), (K w.params).In h → h.Ns mainGlobals mg → mg d.name = some (.ref fa) →
      ∃ fd : FuncData, (∀ (s : Shared) (u : Value), BindsTo s fd ⟨[u], []⟩ [("_law_script", u)]) ∧ ∀ base : Heap, (K w.params).In base → base.Ns mainGlobals mg → FnOk l.prog w (K w.params) mg base CX0 60 fa fd ["_law_script"] (spLaw (K w.params))) :
    PySem.W.WalkX q loose XP (PySem.W.X.obsZ as) (PySem.W.X.valZ K n t) l.row.toRowW d [] (fun f vs => PySem.call f vs) :=
  fun w s₀ s₁ mg mb G y a o pm cd doc dV kV h1 h2 h3 h4 h5 h6 args vals as' L p1 p2 p3 p4 p5 =>
    walk (YP := fun w h => (K w.params).In h) hn hdf (fun _ _ z => z) F w s₀ s₁ mg mb G ((show (K w.params).In s₀.heap from (PySem.W.X.z_facts e y).2.1).keeps L.keeps) a o pm cd doc dV kV h1 h2 h3 h4 h5 h6 args vals as' p1 p2 p3 p4 p5
end K41
open PySem PySem.W PyProof.Rows
set_option maxRecDepth 100000 in
set_option maxHeartbeats 0 in
theorem PySem.Challenge.cw_patchbough_k41_what_asks_let_in_holds : PySem.Challenge.rw_patchbough_k41_what_asks_let_in.Holds := by
  w_on; o_law; z_head; (case hw => w_witness2)
  k_fill
  refine K41.walkZ (l := PySem.Challenge.rw_patchbough_k41_what_asks_let_in) (fun _ => rfl) rfl rfl ?F
  case F =>
    intro w mg fa h KX G hmg
    refine' K41.all_mk KX G hmg ?a1 ?l1 ?c1 ?k1 ?a2 ?l2 ?c2 ?k2 ?a3 ?l3 ?c3 ?k3 ?a4 ?l4 ?c4 ?k4 ?a5 ?l5 ?c5 ?k5 ?a6 ?l6 ?c6 ?k6 ?a7 ?l7 ?c7 ?k7 ?a8 ?l8 ?c8 ?k8 ?a9 ?l9 ?c9 ?k9 ?a10 ?l10 ?c10 ?k10 ?a11 ?l11 ?c11 ?k11 ?a12 ?l12 ?c12 ?k12 ?a13 ?l13 ?c13 ?k13 ?a14 ?l14 ?c14 ?k14 ?a15 ?l15 ?c15 ?k15 ?a16 ?l16 ?c16 ?k16 ?a17 ?l17 ?c17 ?k17 ?a18 ?l18 ?c18 ?k18 ?a19 ?l19 ?c19 ?k19 ?a20 ?l20 ?c20 ?k20 ?z1 ?z2 ?z3 ?z4 ?z5 ?z6 ?z7 ?z8 ?z9 ?z10 ?z11 ?z12 ?z13 ?z14 ?z15 ?z16 ?z17 ?zZ
    (case a1 => k_is)
    (case l1 => k_is)
    (case c1 => k_is)
    (case k1 => k_is)
    (case a2 => k_is)
    (case l2 => k_is)
    (case c2 => k_is)
    (case k2 => k_is)
    (case a3 => k_is)
    (case l3 => k_is)
    (case c3 => k_is)
    (case k3 => k_is)
    (case a4 => k_is)
    (case l4 => k_is)
    (case c4 => k_is)
    (case k4 => k_is)
    (case a5 => k_is)
    (case l5 => k_is)
    (case c5 => k_is)
    (case k5 => k_is)
    (case a6 => k_is)
    (case l6 => k_is)
    (case c6 => k_is)
    (case k6 => k_is)
    (case a7 => k_is)
    (case l7 => k_is)
    (case c7 => k_is)
    (case k7 => k_is)
    (case a8 => k_is)
    (case l8 => k_is)
    (case c8 => k_is)
    (case k8 => k_is)
    (case a9 => k_is)
    (case l9 => k_is)
    (case c9 => k_is)
    (case k9 => k_is)
    (case a10 => k_is)
    (case l10 => k_is)
    (case c10 => k_is)
    (case k10 => k_is)
    (case a11 => k_is)
    (case l11 => k_is)
    (case c11 => k_is)
    (case k11 => k_is)
    (case a12 => k_is)
    (case l12 => k_is)
    (case c12 => k_is)
    (case k12 => k_is)
    (case a13 => k_is)
    (case l13 => k_is)
    (case c13 => k_is)
    (case k13 => k_is)
    (case a14 => k_is)
    (case l14 => k_is)
    (case c14 => k_is)
    (case k14 => k_is)
    (case a15 => k_is)
    (case l15 => k_is)
    (case c15 => k_is)
    (case k15 => k_is)
    (case a16 => k_is)
    (case l16 => k_is)
    (case c16 => k_is)
    (case k16 => k_is)
    (case a17 => k_is)
    (case l17 => k_is)
    (case c17 => k_is)
    (case k17 => k_is)
    (case a18 => k_is)
    (case l18 => k_is)
    (case c18 => k_is)
    (case k18 => k_is)
    (case a19 => k_is)
    (case l19 => k_is)
    (case c19 => k_is)
    (case k19 => k_is)
    (case a20 => k_is)
    (case l20 => k_is)
    (case c20 => k_is)
    (case k20 => k_is)
    (case z1 => k_is)
    (case z2 => k_is)
    (case z3 => k_is)
    (case z4 => k_is)
    (case z5 => k_is)
    (case z6 => k_is)
    (case z7 => k_is)
    (case z8 => k_is)
    (case z9 => k_is)
    (case z10 => k_is)
    (case z11 => k_is)
    (case z12 => k_is)
    (case z13 => k_is)
    (case z14 => k_is)
    (case z15 => k_is)
    (case z16 => k_is)
    (case z17 => k_is)
    (case zZ => k_is)
#print axioms PySem.Challenge.cw_patchbough_k41_what_asks_let_in_holds

