import PyProof.Rows.All
import Wide.All
import OpenK.AllK
import Wide.FinOn
import Lean
import PyProof.EqAt
import PyProof.EqKinds
import PyProof.TupleCall
import PyProof.ReprRoads
import PyProof.ReprBulk
import Wide.Seal
import PySem.Challenge.RW_patchbough_k12_what_is_no_document
set_option Elab.async false
set_option linter.all false
set_option maxRecDepth 100000
namespace L2
open PySem PySem.Spec PyProof.Rows

abbrev Key := Sum Int Str
def keyIs : Key → Value → Bool
  | .inl k, v => Value.isInt k v
  | .inr x, v => Value.isStrOf x v
def keyH (w : World) : Key → Int
  | .inl k => hashInt k
  | .inr x => hashStr w x
theorem keyIs_shape : ∀ {k : Key} {v : Value}, keyIs k v = true → (∃ i t, k = Sum.inl i ∧ v = Value.int i t) ∨ (∃ x t, k = Sum.inr x ∧ v = Value.str x t)
  | .inl i, v, h => by
    obtain ⟨t, e⟩ := Value.isInt_shape (k := i) (v := v) h
    exact .inl ⟨i, t, rfl, e⟩
  | .inr x, v, h => by
    obtain ⟨t, e⟩ := Value.isStrOf_shape (x := x) (v := v) h
    exact .inr ⟨x, t, rfl, e⟩
theorem keyIs_int (i : Int) (t : Tok) : keyIs (.inl i) (.int i t) = true := by simp [keyIs, Value.isInt]
theorem keyIs_str (x : Str) (t : Tok) : keyIs (.inr x) (.str x t) = true := by simp [keyIs, Value.isStrOf]
theorem key_ll (a b : Int) : decide ((Sum.inl a : Key) = Sum.inl b) = (a == b) := by
  by_cases e : a = b
  · subst e; simp
  · have h : ¬ (Sum.inl a : Key) = Sum.inl b := fun q => e (Sum.inl.inj q)
    rw [decide_eq_false h]
    exact (beq_eq_false_iff_ne.mpr e).symm
theorem key_rr (a b : Str) : decide ((Sum.inr a : Key) = Sum.inr b) = decide (a = b) := by
  by_cases e : a = b
  · subst e; simp
  · have h : ¬ (Sum.inr a : Key) = Sum.inr b := fun q => e (Sum.inr.inj q)
    rw [decide_eq_false h, decide_eq_false e]
theorem key_lr (a : Int) (b : Str) : decide ((Sum.inl a : Key) = Sum.inr b) = false := decide_eq_false (fun q => nomatch q)
theorem key_rl (a : Str) (b : Int) : decide ((Sum.inr a : Key) = Sum.inl b) = false := decide_eq_false (fun q => nomatch q)

def mixKind (prog : Program) (w : World) : PySem.KeyKind prog w Key where
  is := keyIs
  hash := keyH w
  inj := fun v a b ha hb => by
    rcases keyIs_shape ha with ⟨i, t, rfl, rfl⟩ | ⟨x, t, rfl, rfl⟩
    · rcases keyIs_shape hb with ⟨j, u, rfl, e⟩ | ⟨y, u, rfl, e⟩
      · injection e with e1 _; rw [e1]
      · exact nomatch e
    · rcases keyIs_shape hb with ⟨j, u, rfl, e⟩ | ⟨y, u, rfl, e⟩
      · exact nomatch e
      · injection e with e1 _; rw [e1]
  byValue := fun k v h => by
    rcases keyIs_shape h with ⟨i, t, rfl, rfl⟩ | ⟨x, t, rfl, rfl⟩ <;> rfl
  pyHash := fun hv h => by
    rcases keyIs_shape hv with ⟨i, t, rfl, rfl⟩ | ⟨x, t, rfl, rfl⟩
    · exact wpAny_pyHash_int h
    · exact wpAny_pyHash_str h
  eqBool := fun hu hv h => by
    rcases keyIs_shape hu with ⟨i, t, rfl, rfl⟩ | ⟨x, t, rfl, rfl⟩
    · rcases keyIs_shape hv with ⟨j, u, rfl, rfl⟩ | ⟨y, u, rfl, rfl⟩
      · rw [key_ll] at h; exact wpAny_eqBool_int h
      · rw [key_lr] at h; exact SeqAt.EqAt.int_str i t y u _ _ _ _ h
    · rcases keyIs_shape hv with ⟨j, u, rfl, rfl⟩ | ⟨y, u, rfl, rfl⟩
      · rw [key_rl] at h; exact SeqAt.EqAt.str_int x t j u _ _ _ _ h
      · rw [key_rr] at h; exact wpAny_eqBool_str h
  «strs» := fun k x t v h => by
    rcases keyIs_shape h with ⟨i, u, rfl, e⟩ | ⟨y, u, rfl, e⟩
    · exact nomatch e
    · injection e with e1 _
      subst e1
      cases v <;> rfl

theorem mixKind_int (prog : Program) (w : World) (i : Int) (t : Tok) : (mixKind prog w).is (.inl i) (.int i t) = true := keyIs_int i t
theorem mixKind_str (prog : Program) (w : World) (x : Str) (t : Tok) : (mixKind prog w).is (.inr x) (.str x t) = true := keyIs_str x t
end L2

namespace L2
open PySem PySem.Spec PyProof.Rows

inductive V where
  | non | bl (b : Bool) | int (i : Int) | str (x : Str) | byt (b : Array UInt8) | flt (b : UInt64) | ref (a : Addr) | ty (n : String)
  deriving DecidableEq

def RelV : V → Value → Prop
  | .non, u => u = Value.none
  | .bl b, u => u = Value.bool b
  | .int i, u => ∃ t, u = Value.int i t
  | .str x, u => ∃ t, u = Value.str x t
  | .byt b, u => ∃ t, u = Value.bytes b t
  | .flt b, u => ∃ t, u = Value.float b t
  | .ref a, u => u = Value.ref a
  | .ty n, u => u = Value.type n

abbrev Vals : List V → List Value → Prop := Paired RelV
theorem Vals.length {xs : List V} {us : List Value} (r : Vals xs us) : xs.length = us.length := Paired.length r
theorem Vals.inv {x : V} {xs : List V} {us : List Value} (r : Vals (x :: xs) us) : ∃ u ur, us = u :: ur ∧ RelV x u ∧ Vals xs ur := by
  cases r with
  | cons a b => exact ⟨_, _, rfl, a, b⟩
theorem Vals.get {xs : List V} {us : List Value} {i : Nat} {x : V} (r : Vals xs us) (e : xs[i]? = some x) : ∃ u, us[i]? = some u ∧ RelV x u := by
  induction r generalizing i with
  | nil => rw [List.getElem?_nil] at e; exact nomatch e
  | cons a b ih =>
    cases i with
    | zero => exact ⟨_, rfl, Option.some.inj e ▸ a⟩
    | succ j => exact ih (i := j) e
theorem Vals.set {x : V} {u : Value} (r : RelV x u) : ∀ {xs : List V} {us : List Value} (i : Nat), Vals xs us → Vals (xs.set i x) (us.set i u)
  | _, _, _, .nil => .nil
  | _, _, 0, .cons _ t => .cons r t
  | _, _, i + 1, .cons q t => .cons q (Vals.set r i t)
theorem Vals.append {xs ys : List V} {us ws : List Value} (r : Vals xs us) (s : Vals ys ws) : Vals (xs ++ ys) (us ++ ws) := by
  induction r with
  | nil => exact s
  | cons a _ ih => exact .cons a ih
theorem Vals.take : ∀ {xs : List V} {us : List Value} (n : Nat), Vals xs us → Vals (xs.take n) (us.take n)
  | _, _, 0, _ => .nil
  | _, _, _ + 1, .nil => .nil
  | _, _, n + 1, .cons r t => .cons r (Vals.take n t)
theorem Vals.drop : ∀ {xs : List V} {us : List Value} (n : Nat), Vals xs us → Vals (xs.drop n) (us.drop n)
  | _, _, 0, r => r
  | _, _, _ + 1, .nil => .nil
  | _, _, n + 1, .cons _ t => Vals.drop n t
theorem Vals.none_of : ∀ {xs : List V} {us : List Value} {i : Nat}, Vals xs us → xs[i]? = none → us[i]? = none := fun {xs us i} r e => by
  have h1 := r.length
  have h2 : xs.length ≤ i := List.getElem?_eq_none_iff.mp e
  exact List.getElem?_eq_none_iff.mpr (by omega)

def RelO : Option V → Option Value → Prop
  | some v, some u => RelV v u
  | none, none => True
  | _, _ => False
def KV {κ : Type} : List (κ × V) → List (κ × Value) → Prop := Paired fun (p : κ × V) (q : κ × Value) => p.1 = q.1 ∧ RelV p.2 q.2

def kV : Key → V
  | .inl i => .int i
  | .inr x => .str x

inductive HO where
  | lst (xs : List V)
  | tup (xs : List V)
  | dK (kvs : List (Key × V)) | dT (kvs : List (List Key × V))
  | set (S : Int → Bool) (n : Nat)
  | ins (C dx : Addr) (fs : List (Str × V))
  | own (x : Addr)
  | xd (fs : List (Str × V))
  | met (f x : Addr)
  | rng (lo hi : Int)
  | frz (o : Obj) (u : HO)
  | tbl (ps : Array Value)
  | ext (φ : Heap → Prop)

abbrev Hp := Addr → Option HO
def upd (H : Hp) (a : Addr) (o : HO) : Hp := fun b => if b = a then some o else H b
theorem upd_same {H : Hp} {a : Addr} {o : HO} : upd H a o a = some o := by unfold upd; rw [if_pos rfl]
theorem upd_ne {H : Hp} {a b : Addr} {o : HO} (h : b ≠ a) : upd H a o b = H b := by unfold upd; rw [if_neg h]
theorem upd_upd {H : Hp} {a : Addr} {o u : HO} : upd (upd H a o) a u = upd H a u := by
  funext b; unfold upd; split <;> rfl
theorem ne_of {H : Hp} {a b : Addr} {o u : HO} (h : H a = some o) (h' : H b = some u) (d : o ≠ u) : a ≠ b := by
  intro e; subst e; rw [h] at h'; exact d (Option.some.inj h')
theorem ne_of_none {H : Hp} {a b : Addr} {o : HO} (h : H a = some o) (h' : H b = none) : a ≠ b := by
  intro e; subst e; rw [h] at h'; cases h'

section
variable (P : Program) (w : World)
def ObjOk (H : Hp) (h : Heap) (a : Addr) : HO → Prop
  | .lst xs => xs.length ≤ sizeLine ∧ ∃ (its : List Value) (n : Nat), Vals xs its ∧ h.get? a = some { cls := .type "list", data := .seq its.toArray n }
  | .tup xs => xs.length ≤ sizeLine ∧ ∃ its : List Value, Vals xs its ∧ IsTup h a its.toArray
  | .dK kvs => kvs.length ≤ sizeLine ∧ (a == sysModules) = false ∧ ∃ vs, KV kvs vs ∧ h.DictOf (mixKind P w) a vs
  | .dT kvs => kvs.length ≤ sizeLine ∧ (a == sysModules) = false ∧ ∃ xs : List (List Key × Addr × Value),
      Paired (fun (p : List Key × V) (q : List Key × Addr × Value) => p.1 = q.1 ∧ H q.2.1 = some (.tup (p.1.map kV)) ∧ RelV p.2 q.2.2) kvs xs ∧
      ∃ o es ep, h.get? a = some o ∧ o.ExactDict ∧ o.data = .dict es ep ∧ es.toList = xs.map (entryOfKey (tupleKind (mixKind P w))) ∧ (xs.map (·.1)).Nodup
  | .set S n => h.SetOf (intKind P w) a S n
  | .ins C dx fs => H dx = some (.own a) ∧ fs.length ≤ 1000 ∧ dx ≠ a ∧ h.get? a = some (PySem.W.instObj C dx) ∧
      ∃ mA, h.Ns1 dx mA ∧ (∀ f, RelO (fs.lookup f) (mA f)) ∧ PySem.Within mA (fs.map (·.1))
  | .own _ => ∃ o, h.get? a = some o
  | .xd fs => ∃ mA, h.Ns1 a mA ∧ ∀ f, RelO (fs.lookup f) (mA f)
  | .rng lo hi => ∃ t u v, h.get? a = some { cls := .type "range", data := .fields #[.int lo t, .int hi u, .int 1 v] }
  | .frz o u => h.get? a = some o ∧ ObjOk H h a u
  | .tbl ps => h.get? a = some { cls := .none, data := .fields ps }
  | .met f x => h.get? a = some (PySem.W.methodObj (.ref f) (.ref x))
  | .ext φ => φ h ∧ (∃ o, h.get? a = some o) ∧ ∀ h1 h2 : Heap, φ h1 → (∀ o, h1.get? a = some o → h2.get? a = some o) → φ h2
def HOk (H : Hp) (h : Heap) : Prop := ∀ a o, H a = some o → ObjOk P w H h a o
end

section
variable {P : Program} {w : World} {H H' : Hp} {h h' : Heap} {a : Addr} {o : HO}
theorem ObjOk.lt (x : ObjOk P w H h a o) : a < h.objs.size := by
  cases o with
  | lst xs => obtain ⟨_, _, _, _, e⟩ := x; exact Heap.lt_size e
  | tup xs => obtain ⟨_, _, _, p⟩ := x; exact p.lt
  | dK kvs => obtain ⟨_, _, _, _, o, _, _, e, _⟩ := x; exact Heap.lt_size e
  | dT kvs => obtain ⟨_, _, _, _, o, _, _, e, _⟩ := x; exact Heap.lt_size e
  | set S n => obtain ⟨o, _, _, _, e, _⟩ := x; exact Heap.lt_size e
  | ins C dx fs => obtain ⟨_, _, _, e, _⟩ := x; exact Heap.lt_size e
  | own y => obtain ⟨_, e⟩ := x; exact Heap.lt_size e
  | xd fs => obtain ⟨_, ⟨_, _, _, e, _⟩, _⟩ := x; exact Heap.lt_size e
  | rng lo hi => obtain ⟨_, _, _, e⟩ := x; exact Heap.lt_size e
  | frz ob u => obtain ⟨e, _⟩ := x; exact Heap.lt_size e
  | tbl ps => exact Heap.lt_size (show h.get? a = some _ from x)
  | met f y => exact Heap.lt_size (show h.get? a = some _ from x)
  | ext φ => obtain ⟨_, ⟨_, e⟩, _⟩ := x; exact Heap.lt_size e
theorem Paired.mapP {α β : Type} {F G : α → β → Prop} {l₁ : List α} {l₂ : List β} (r : Paired F l₁ l₂) (f : ∀ a b, F a b → G a b) : Paired G l₁ l₂ := by
  induction r with
  | nil => exact .nil
  | cons a _ ih => exact .cons (f _ _ a) ih
theorem ObjOk.stay (x : ObjOk P w H h a o) (k : ∀ b u, (b = a ∨ H b = some (.own a)) → h.get? b = some u → h'.get? b = some u)
    (ho : ∀ b, H b = some (.own a) → H' b = some (.own a)) (ht : ∀ b xs, H b = some (.tup xs) → H' b = some (.tup xs)) : ObjOk P w H' h' a o := by
  induction o with
  | lst xs => obtain ⟨z, its, n, r, e⟩ := x; exact ⟨z, its, n, r, k _ _ (.inl rfl) e⟩
  | tup xs => obtain ⟨z, its, r, ob, e, c⟩ := x; exact ⟨z, its, r, ob, k _ _ (.inl rfl) e, c⟩
  | dK kvs => obtain ⟨z, y, vs, r, ob, es, ep, e, c⟩ := x; exact ⟨z, y, vs, r, ob, es, ep, k _ _ (.inl rfl) e, c⟩
  | dT kvs =>
    obtain ⟨z, y, xs, r, ob, es, ep, e, c⟩ := x
    exact ⟨z, y, xs, Paired.mapP r fun p q z => ⟨z.1, ht _ _ z.2.1, z.2.2⟩, ob, es, ep, k _ _ (.inl rfl) e, c⟩
  | set S n => obtain ⟨ob, es, ep, t, e, c⟩ := x; exact ⟨ob, es, ep, t, k _ _ (.inl rfl) e, c⟩
  | ins C dx fs =>
    obtain ⟨d, z, ne, e, mA, ⟨od, es, ep, e2, c⟩, r⟩ := x
    exact ⟨ho _ d, z, ne, k _ _ (.inl rfl) e, mA, ⟨od, es, ep, k _ _ (.inr d) e2, c⟩, r⟩
  | own y => obtain ⟨ob, e⟩ := x; exact ⟨ob, k _ _ (.inl rfl) e⟩
  | xd fs => obtain ⟨mA, ⟨od, es, ep, e, c⟩, r⟩ := x; exact ⟨mA, ⟨od, es, ep, k _ _ (.inl rfl) e, c⟩, r⟩
  | rng lo hi => obtain ⟨t, u, v, e⟩ := x; exact ⟨t, u, v, k _ _ (.inl rfl) e⟩
  | frz ob u ih => obtain ⟨e, q⟩ := x; exact ⟨k _ _ (.inl rfl) e, ih q⟩
  | tbl ps =>
    have e : h.get? a = some { cls := .none, data := .fields ps } := x
    show h'.get? a = some { cls := .none, data := .fields ps }
    exact k a _ (.inl rfl) e
  | met f y =>
    have e : h.get? a = some (PySem.W.methodObj (.ref f) (.ref y)) := x
    show h'.get? a = some (PySem.W.methodObj (.ref f) (.ref y))
    exact k a _ (.inl rfl) e
  | ext φ => obtain ⟨p, ⟨o, e⟩, st⟩ := x; exact ⟨st _ _ p fun o q => k _ _ (.inl rfl) q, ⟨o, k _ _ (.inl rfl) e⟩, st⟩
theorem HOk.lt (x : HOk P w H h) (e : H a = some o) : a < h.objs.size := (x a o e).lt
theorem HOk.fresh (x : HOk P w H h) (e : h.objs.size ≤ a) : H a = none := by
  cases q : H a with
  | none => rfl
  | some u => exact absurd (Nat.lt_of_lt_of_le (x.lt q) e) (Nat.lt_irrefl _)
theorem HOk.kept (x : HOk P w H h) (k : ∀ b u, h.get? b = some u → h'.get? b = some u) : HOk P w H h' := fun a o e =>
  (x a o e).stay (fun b u _ q => k b u q) (fun _ q => q) fun _ _ q => q
theorem HOk.laid (x : HOk P w H h) (k : ∀ b u, h.get? b = some u → h'.get? b = some u) (hp : h.objs.size ≤ a) (new : ObjOk P w (upd H a o) h' a o) : HOk P w (upd H a o) h' := fun b u e => by
  have hn := x.fresh hp
  by_cases hb : b = a
  · subst hb; rw [upd_same] at e; cases e; exact new
  · rw [upd_ne hb] at e
    exact (x b u e).stay (fun c v _ q => k c v q) (fun c q => by rw [upd_ne (ne_of_none q hn)]; exact q) fun c xs q => by rw [upd_ne (ne_of_none q hn)]; exact q
end

def Rd (H : Hp) (a : Addr) (u : HO) : Prop := H a = some u ∨ ∃ o, H a = some (.frz o u)
theorem Rd.of {H : Hp} {a : Addr} {u : HO} (h : H a = some u) : Rd H a u := .inl h
theorem Rd.ok {P : Program} {w : World} {H : Hp} {h : Heap} {a : Addr} {u : HO} (r : Rd H a u) (x : HOk P w H h) : ObjOk P w H h a u := by
  rcases r with r | ⟨o, r⟩
  · exact x a u r
  · obtain ⟨_, q⟩ := x a _ r
    exact q
def Mut : Option HO → Prop
  | some (.lst _) => True
  | some (.dK _) => True
  | some (.dT _) => True
  | some (.set _ _) => True
  | some (.ins _ _ _) => True
  | some (.ext _) => True
  | _ => False
section
variable {P : Program} {w : World} {H : Hp} {h h' : Heap} {x e : Addr} {o' : HO}
theorem HOk.write (ok : HOk P w H h) (mu : Mut (H x)) (he : e = x ∨ H e = some (.own x)) (k : ∀ b u, b ≠ e → h.get? b = some u → h'.get? b = some u) (heo : ∃ u, h'.get? e = some u)
    (new : ObjOk P w (upd H x o') h' x o') : HOk P w (upd H x o') h' := fun b u q => by
  have nown : ∀ c y, H c = some (.own y) → c ≠ x := fun c y r z => by subst z; rw [r] at mu; exact mu
  have ntup : ∀ c xs, H c = some (.tup xs) → c ≠ x := fun c xs r z => by subst z; rw [r] at mu; exact mu
  by_cases hb : b = x
  · subst hb; rw [upd_same] at q; cases q; exact new
  · rw [upd_ne hb] at q
    by_cases hbe : b = e
    · have q' : H b = some (.own x) := by
        rcases he with z | z
        · exact absurd (hbe.trans z) hb
        · rw [hbe]; exact z
      rw [q] at q'; cases q'
      obtain ⟨v, hv⟩ := heo
      exact ⟨v, by rw [hbe]; exact hv⟩
    · refine (ok b u q).stay (fun c v hc r => k c v ?_ r) (fun c r => by rw [upd_ne (nown c b r)]; exact r) fun c xs r => by rw [upd_ne (ntup c xs r)]; exact r
      rcases hc with rfl | hc
      · exact hbe
      · rintro rfl
        rcases he with z | z
        · exact nown c b hc z
        · rw [hc] at z; cases z; exact hb rfl
end

structure Un (fs ex : List Addr) (H H' : Hp) (h h' : Heap) : Prop where
  keep : ∀ b o, h.get? b = some o → H b = none → b ∉ fs → b ∉ ex → h'.get? b = some o
  slot : ∀ b o, h.get? b = some o → H b = none → b ∈ fs → b ∉ ex → ∃ sl, h'.get? b = some { o with slots := sl }
  free : ∀ b o, h.get? b = some o → H b = none → b ∉ ex → H' b = none
  there : ∀ b o, h.get? b = some o → b ∉ ex → ∃ o', h'.get? b = some o'
  tups : ∀ b xs, H b = some (.tup xs) → H' b = some (.tup xs)
  frzs : ∀ b o u, H b = some (.frz o u) → H' b = some (.frz o u)
  tbls : ∀ b ps, H b = some (.tbl ps) → ∃ more, H' b = some (.tbl (ps ++ more))
section
variable {fs fs' ex ex' : List Addr} {H H1 H2 : Hp} {h h1 h2 h' : Heap} {a x e : Addr} {o : HO}
theorem Un.any (u : Un fs ex H H1 h h1) {b : Addr} {ob : Obj} (q : h.get? b = some ob) (n : H b = none) (hx : b ∉ ex) : ∃ sl, h1.get? b = some { ob with slots := sl } := by
  by_cases hb : b ∈ fs
  · exact u.slot b ob q n hb hx
  · exact ⟨ob.slots, u.keep b ob q n hb hx⟩
theorem Un.trans (a : Un fs ex H H1 h h1) (b : Un fs ex H1 H2 h1 h2) : Un fs ex H H2 h h2 where
  keep := fun c ob q n hc hx => b.keep c ob (a.keep c ob q n hc hx) (a.free c ob q n hx) hc hx
  slot := fun c ob q n hc hx => by
    obtain ⟨sl, e1⟩ := a.slot c ob q n hc hx
    obtain ⟨sl', e2⟩ := b.slot c _ e1 (a.free c ob q n hx) hc hx
    exact ⟨sl', e2⟩
  free := fun c ob q n hx => by
    obtain ⟨o', e1⟩ := a.there c ob q hx
    exact b.free c o' e1 (a.free c ob q n hx) hx
  there := fun c ob q hx => by
    obtain ⟨o', e1⟩ := a.there c ob q hx
    exact b.there c o' e1 hx
  tups := fun c xs q => b.tups c xs (a.tups c xs q)
  frzs := fun c ob xs q => b.frzs c ob xs (a.frzs c ob xs q)
  tbls := fun c ps q => by
    obtain ⟨m1, e1⟩ := a.tbls c ps q
    obtain ⟨m2, e2⟩ := b.tbls c _ e1
    exact ⟨m1 ++ m2, by rw [e2, Array.append_assoc]⟩
theorem Un.kept (k : ∀ b u, h.get? b = some u → h'.get? b = some u) : Un fs ex H H h h' :=
  ⟨fun b ob q _ _ _ => k b ob q, fun b ob q _ _ _ => ⟨ob.slots, k b ob q⟩, fun _ _ _ n _ => n, fun b ob q _ => ⟨ob, k b ob q⟩, fun _ _ q => q, fun _ _ _ q => q, fun _ ps q => ⟨#[], by rw [q]; simp⟩⟩
theorem Un.refl : Un fs ex H H h h := Un.kept fun _ _ q => q
theorem Un.laid (k : ∀ b u, h.get? b = some u → h'.get? b = some u) (hp : h.objs.size ≤ a) (hn : H a = none) : Un fs ex H (upd H a o) h h' where
  keep := fun b u q _ _ _ => k b u q
  slot := fun b u q _ _ _ => ⟨u.slots, k b u q⟩
  free := fun b u q n _ => by rw [upd_ne (Nat.ne_of_lt (Nat.lt_of_lt_of_le (Heap.lt_size q) hp))]; exact n
  there := fun b u q _ => ⟨u, k b u q⟩
  tups := fun b xs q => by rw [upd_ne (ne_of_none q hn)]; exact q
  frzs := fun b u xs q => by rw [upd_ne (ne_of_none q hn)]; exact q
  tbls := fun b ps q => ⟨#[], by rw [upd_ne (ne_of_none q hn), q]; simp⟩
theorem Un.write (mu : Mut (H x)) (he : e = x ∨ H e = some (.own x)) (k : ∀ b u, b ≠ e → h.get? b = some u → h'.get? b = some u) (heo : ∃ u, h'.get? e = some u) : Un fs ex H (upd H x o) h h' := by
  have hx : ∀ b, H b = none → b ≠ x := fun b n z => by subst z; rw [n] at mu; exact mu
  have hb : ∀ b, H b = none → b ≠ e := fun b n z => by
    subst z
    rcases he with r | r
    · exact hx b n r
    · rw [n] at r; cases r
  have hm : ∀ b u, H b = some u → ¬ Mut (some u) → b ≠ x := fun b u q nm z => by subst z; rw [q] at mu; exact nm mu
  refine ⟨fun b u q n _ _ => k b u (hb b n) q, fun b u q n _ _ => ⟨u.slots, k b u (hb b n) q⟩, fun b u q n _ => by rw [upd_ne (hx b n)]; exact n, fun b u q _ => ?_,
    fun b xs q => by rw [upd_ne (hm b _ q fun z => z)]; exact q, fun b u xs q => by rw [upd_ne (hm b _ q fun z => z)]; exact q, fun b ps q => ⟨#[], by rw [upd_ne (hm b _ q fun z => z), q]; simp⟩⟩
  by_cases hbe : b = e
  · subst hbe; exact heo
  · exact ⟨u, k b u hbe q⟩
theorem Un.mono (u : Un fs ex H H1 h h1) (hs : ∀ b ∈ fs, b ∈ fs') (hx : ∀ b ∈ ex, b ∈ ex') : Un fs' ex' H H1 h h1 :=
  ⟨fun b ob q n hb he => u.keep b ob q n (fun z => hb (hs b z)) fun z => he (hx b z), fun _ _ q n _ he => u.any q n fun z => he (hx _ z), fun b ob q n he => u.free b ob q n fun z => he (hx b z), fun b ob q he => u.there b ob q fun z => he (hx b z), u.tups, u.frzs, u.tbls⟩
end

def trk (h : Heap) (H : Hp) : List Addr := (List.range h.objs.size).filter fun a => (H a).isSome
def hidT (h : Heap) (H : Hp) : Heap := PySem.W.hideAll h (trk h H)
theorem hidT_size (h : Heap) (H : Hp) : (hidT h H).objs.size = h.objs.size := PySem.W.hideAll_size _ _
theorem hidT_get {h : Heap} {H : Hp} {b : Addr} {o : Obj} (e : h.get? b = some o) (n : H b = none) : (hidT h H).get? b = some o :=
  PySem.W.hideAll_get _ e fun hm => by
    have q : (H b).isSome = true := (List.mem_filter.mp hm).2
    rw [n] at q; simp at q
theorem of_hidT {h : Heap} {H : Hp} {b : Addr} {o : Obj} (e : (hidT h H).get? b = some o) : h.get? b = some o ∧ H b = none := by
  have e' : h.get? b = some o := PySem.W.of_hideAll (trk h H) e
  refine ⟨e', ?_⟩
  cases q : H b with
  | none => rfl
  | some x =>
    have hm : b ∈ trk h H := List.mem_filter.mpr ⟨List.mem_range.mpr (Heap.lt_size e'), by simp [q]⟩
    have z : (hidT h H).get? b = none := PySem.W.hideAll_none (trk h H) hm
    rw [z] at e; cases e

def allNews (g h : Heap) (L : Addr) : List (Addr × Obj) := (List.range h.objs.size).filterMap fun a => if a = L ∨ (g.get? a).isSome = true then none else (h.get? a).map fun o => (a, o)
def rest (g h : Heap) (L d : Addr) : List (Addr × Obj) := (allNews g h L).filter fun p => decide (p.1 ≠ d)
end L2

namespace L2
open PySem PySem.Spec PyProof.Rows

structure Mod (K : PySem.W.Frag) (mg : Str → Option Value) (base : Heap) : Prop where
  kin : K.In base
  glob : base.Ns mainGlobals mg
  blt : ∃ mb, base.Ns builtinsNs mb ∧ ∀ x : Str, x ≠ "__name__" → mb x = bootBuiltins x
  nolimit : base.NoLimit

structure Cx where
  prog : Program
  w : World
  K : PySem.W.Frag
  mg : Str → Option Value
  base : Heap
  A : Around
  N : List Str
  s₀ : Shared
  H₀ : Hp
  env : Env
  outer : List Env
  stack : List Env
  ex : List Addr
  fn : Str → Bool
  calm : Bool
  pn : List (Addr × Obj)
  xe : Value → Shared → Prop
def frs (l : List Env) : List Addr := l.filterMap (·.frame)
abbrev Cx.fs (X : Cx) : List Addr := frs X.outer

def Vis (sc : Scope) (x : Str) : Prop := sc.names.lookup x = some .local ∨ sc.names.lookup x = some .cell ∨ sc.names.lookup x = some .free
def Loc (sc : Scope) (x : Str) : Prop := sc.names.lookup x = some .local ∨ sc.names.lookup x = some .cell
def Look (env : Env) (h : Heap) (m : Str → Option Value) (x : Str) (u : Value) : Prop :=
  (env.kindOf x = some .local ∧ m x = some u) ∨ ((env.kindOf x = some .cell ∨ env.kindOf x = some .free) ∧ ∃ c, env.cells.lookup x = some c ∧ h.IsCell c (some u))

structure Cx.Ok (X : Cx) : Prop where
  mod : Mod X.K X.mg X.base
  kind : X.env.scope.kind = .function
  glob : X.env.globals = mainGlobals
  blt : X.env.builtins = builtinsNs
  above : X.s₀.heap.objs.size ≤ X.env.locals
  inj : ∀ x y c, X.env.cells.lookup x = some c → X.env.cells.lookup y = some c → x = y
  has : ∀ x, (X.env.kindOf x = some .cell ∨ X.env.kindOf x = some .free) → ∃ c, X.env.cells.lookup x = some c
  cab : ∀ x c, X.fn x = true → X.env.cells.lookup x = some c → X.s₀.heap.objs.size ≤ c
  hd : X.calm = true → X.A.handled = none
  frames : X.A.frames = some X.stack
  stk : X.stack = X.outer ∨ (X.stack = X.env :: X.outer ∧ X.env.frame = some X.env.locals)
  exf : ∀ b ∈ X.ex, b ≠ X.env.locals ∧ ∀ x c, X.env.cells.lookup x = some c → c ≠ b
  bs : ∀ b o, X.base.get? b = some o → X.s₀.heap.get? b = some o ∧ X.H₀ b = none
  bsz : X.base.objs.size ≤ X.s₀.heap.objs.size
  noex : ∀ b o, X.base.get? b = some o → b ∉ X.ex
  exfs : ∀ b ∈ X.ex, b ∉ X.fs
  funs : X.s₀.heap.FunFrames X.base X.outer
  frf : ∀ b ∈ X.fs, X.H₀ b = none

structure Inv (X : Cx) (pins : List (Addr × Obj)) (σ : List (Option V)) (H : Hp) (s : Shared) : Prop where
  ok : X.Ok
  os : s.os = X.s₀.os
  bare : AllBare s.gens
  base : Un X.fs X.ex X.H₀ H X.s₀.heap s.heap
  loc : ∃ m, s.heap.Ns X.env.locals m ∧ ∀ (i : Nat) (x : Str) (v : V), X.N[i]? = some x → σ[i]? = some (some v) → Vis X.env.scope x → ∃ u, RelV v u ∧ Look X.env s.heap m x u
  cell : ∀ x c, X.env.cells.lookup x = some c → ∃ v, s.heap.IsCell c v
  free : H X.env.locals = none
  freeC : ∀ x c, X.env.cells.lookup x = some c → H c = none
  pin : ∀ p ∈ X.pn ++ pins, s.heap.get? p.1 = some p.2 ∧ H p.1 = none ∧ p.1 ≠ X.env.locals ∧ p.1 ∉ X.fs ∧ ∀ v, p.2.data ≠ .cell v
  hok : HOk X.prog X.w H s.heap
  len : σ.length = X.N.length

section
variable {X : Cx} {pins : List (Addr × Obj)} {σ : List (Option V)} {H H' : Hp} {s : Shared} {h' : Heap}

theorem Cx.Ok.nofr (ok : X.Ok) {b : Addr} {o : Obj} (e : X.base.get? b = some o) : b ∉ X.fs := fun hb => by
  have := (ok.funs.mem hb).1
  rw [e] at this; cases this
theorem Inv.bs (I : Inv X pins σ H s) : ∀ b o, X.base.get? b = some o → s.heap.get? b = some o ∧ H b = none := fun b o e =>
  ⟨I.base.keep b o (I.ok.bs b o e).1 (I.ok.bs b o e).2 (I.ok.nofr e) (I.ok.noex b o e), I.base.free b o (I.ok.bs b o e).1 (I.ok.bs b o e).2 (I.ok.noex b o e)⟩
theorem Inv.bk (I : Inv X pins σ H s) : ∀ b o, X.base.get? b = some o → s.heap.get? b = some o := fun b o e => (I.bs b o e).1
theorem Inv.mod (I : Inv X pins σ H s) : Mod X.K X.mg X.base := I.ok.mod
theorem Inv.kIn (I : Inv X pins σ H s) : X.K.In s.heap := I.ok.mod.kin.keeps I.bk
theorem Inv.nolimit (I : Inv X pins σ H s) : s.heap.NoLimit := I.ok.mod.nolimit.keeps I.bk
theorem Inv.fr (I : Inv X pins σ H s) : ∃ m, Fr X.base X.env.locals s.heap m :=
  let ⟨m, hn, _⟩ := I.loc
  ⟨m, hn, I.bk, Nat.le_trans I.ok.bsz I.ok.above⟩
theorem Inv.lt (I : Inv X pins σ H s) : X.env.locals < s.heap.objs.size := let ⟨_, hn, _⟩ := I.loc; hn.lt
theorem Inv.sz (I : Inv X pins σ H s) : X.s₀.heap.objs.size ≤ s.heap.objs.size := Nat.le_trans I.ok.above (Nat.le_of_lt I.lt)
theorem Inv.nofs (I : Inv X pins σ H s) {a : Addr} (h : s.heap.objs.size ≤ a) : a ∉ X.fs := fun hb => by
  obtain ⟨_, o, ho, _⟩ := I.ok.funs.mem hb
  exact absurd (Nat.lt_of_lt_of_le (Heap.lt_size ho) (Nat.le_trans I.sz h)) (Nat.lt_irrefl _)
theorem Inv.cne (I : Inv X pins σ H s) : ∀ x c, X.env.cells.lookup x = some c → c ≠ X.env.locals := fun x c e z => by
  obtain ⟨v, o, ho, hd⟩ := I.cell x c e
  obtain ⟨m, ⟨o', es, ep, ho', hd', _⟩, _⟩ := I.loc
  rw [z, ho'] at ho; cases ho; rw [hd'] at hd; cases hd
theorem Inv.funs (I : Inv X pins σ H s) : s.heap.FunFrames X.base X.outer := by
  have all : ∀ (l : List Env), (∀ b ∈ frs l, b ∈ X.fs) → X.s₀.heap.FunFrames X.base l → s.heap.FunFrames X.base l := by
    intro l
    induction l with
    | nil => intro _ _; trivial
    | cons env r ih =>
      intro hs hl
      obtain ⟨hk, ⟨L, o, hf, hn, ho, hd⟩, hr⟩ := hl
      have hL : L ∈ X.fs := hs L (by unfold frs; rw [List.filterMap_cons, hf]; exact List.mem_cons_self)
      obtain ⟨sl, e⟩ := I.base.slot L o ho (I.ok.frf L hL) hL fun z => I.ok.exfs L z hL
      exact ⟨hk, ⟨L, _, hf, hn, e, hd⟩, ih (fun b hb => hs b (by unfold frs; rw [List.filterMap_cons, hf]; exact List.mem_cons_of_mem _ hb)) hr⟩
  exact all X.outer (fun _ hb => hb) I.ok.funs

theorem Inv.stack (I : Inv X pins σ H s) : s.heap.FunFrames X.base X.stack := by
  rcases I.ok.stk with e | ⟨e, hf⟩
  · rw [e]; exact I.funs
  · rw [e]
    obtain ⟨m, hn, _⟩ := I.loc
    refine .cons (by rw [I.ok.kind]; decide) hf hn ?_ I.funs
    exact Heap.get?_none_of_le (Nat.le_trans I.ok.bsz I.ok.above)
theorem Inv.stkSub (I : Inv X pins σ H s) : ∀ b ∈ frs X.stack, b ∈ X.env.locals :: X.fs := fun b hb => by
  rcases I.ok.stk with e | ⟨e, hf⟩
  · rw [e] at hb; exact List.mem_cons_of_mem _ hb
  · rw [e] at hb
    unfold frs at hb
    rw [List.filterMap_cons, hf] at hb
    exact hb
theorem Inv.stkFree (I : Inv X pins σ H s) : ∀ b ∈ frs X.stack, H b = none := fun b hb => by
  rcases List.mem_cons.mp (I.stkSub b hb) with e | hb
  · rw [e]; exact I.free
  · obtain ⟨_, o, ho, _⟩ := I.ok.funs.mem hb
    exact I.base.free b o ho (I.ok.frf b hb) fun z => I.ok.exfs b z hb

theorem Inv.step {g' : Array GenState} {t' : Nat} {d' : Drawn} {ch : List Addr} (I : Inv X pins σ H s)
    (hch : ∀ b ∈ ch, (b ∈ X.ex ∨ X.s₀.heap.objs.size ≤ b) ∧ b ≠ X.env.locals ∧ (∀ x c, X.env.cells.lookup x = some c → c ≠ b) ∧ ∀ p ∈ X.pn ++ pins, p.1 ≠ b)
    (keep : ∀ b o, b ≠ X.env.locals → b ∉ X.fs → b ∉ ch → s.heap.get? b = some o → H b = none → h'.get? b = some o)
    (slot : ∀ b o, b ≠ X.env.locals → b ∈ X.fs → b ∉ ch → s.heap.get? b = some o → H b = none → ∃ sl, h'.get? b = some { o with slots := sl }) (free : ∀ b o, b ∉ ch → s.heap.get? b = some o → H b = none → H' b = none)
    (there : ∀ b o, b ∉ ch → s.heap.get? b = some o → ∃ o', h'.get? b = some o')
    (tups : ∀ b xs, H b = some (.tup xs) → H' b = some (.tup xs)) (frzs : ∀ b o u, H b = some (.frz o u) → H' b = some (.frz o u)) (tbls : ∀ b ps, H b = some (.tbl ps) → ∃ more, H' b = some (.tbl (ps ++ more)))
    (ns : ∀ m, s.heap.Ns X.env.locals m → h'.Ns X.env.locals m) (hok : HOk X.prog X.w H' h') (hg : AllBare g') :
    Inv X pins σ H' { s with heap := h', gens := g', drawn := d', toks := t' } := by
  have neL : ∀ b o, X.s₀.heap.get? b = some o → b ≠ X.env.locals := fun b o e => Nat.ne_of_lt (Nat.lt_of_lt_of_le (Heap.lt_size e) I.ok.above)
  have neC : ∀ b o, X.s₀.heap.get? b = some o → b ∉ X.ex → b ∉ ch := fun b o e hx hb => by
    rcases (hch b hb).1 with z | z
    · exact hx z
    · exact absurd (Nat.lt_of_lt_of_le (Heap.lt_size e) z) (Nat.lt_irrefl _)
  have cellK : ∀ x c, X.env.cells.lookup x = some c → ∀ v, s.heap.IsCell c v → h'.IsCell c v := fun x c e v ⟨o, ho, hd⟩ => by
    have nch : c ∉ ch := fun z => (hch c z).2.2.1 x c e rfl
    by_cases hc : c ∈ X.fs
    · obtain ⟨sl, q⟩ := slot c o (I.cne x c e) hc nch ho (I.freeC x c e)
      exact ⟨_, q, hd⟩
    · exact ⟨o, keep c o (I.cne x c e) hc nch ho (I.freeC x c e), hd⟩
  refine ⟨I.ok, I.os, hg, ⟨fun b o e n hb hx => ?_, fun b o e n hb hx => ?_, fun b o e n hx => ?_, fun b o e hx => ?_, fun b xs e => tups b xs (I.base.tups b xs e), fun b o xs e => frzs b o xs (I.base.frzs b o xs e), fun b ps e => ?_⟩, ?_, fun x c e => ?_, ?_, fun x c e => ?_, fun p hp => ?_, hok, I.len⟩
  · exact keep b o (neL b o e) hb (neC b o e hx) (I.base.keep b o e n hb hx) (I.base.free b o e n hx)
  · obtain ⟨sl, e1⟩ := I.base.slot b o e n hb hx
    obtain ⟨sl', e2⟩ := slot b _ (neL b o e) hb (neC b o e hx) e1 (I.base.free b o e n hx)
    exact ⟨sl', e2⟩
  · obtain ⟨o', e1⟩ := I.base.there b o e hx
    exact free b o' (neC b o e hx) e1 (I.base.free b o e n hx)
  · obtain ⟨o', e1⟩ := I.base.there b o e hx
    exact there b o' (neC b o e hx) e1
  · obtain ⟨m1, e1⟩ := I.base.tbls b ps e
    obtain ⟨m2, e2⟩ := tbls b _ e1
    exact ⟨m1 ++ m2, by rw [e2, Array.append_assoc]⟩
  · obtain ⟨m, hn, hl⟩ := I.loc
    refine ⟨m, ns m hn, fun i x v e1 e2 e3 => ?_⟩
    obtain ⟨u, r, l⟩ := hl i x v e1 e2 e3
    refine ⟨u, r, ?_⟩
    rcases l with l | ⟨k, c, e, z⟩
    · exact .inl l
    · exact .inr ⟨k, c, e, cellK x c e _ z⟩
  · obtain ⟨v, z⟩ := I.cell x c e
    exact ⟨v, cellK x c e v z⟩
  · obtain ⟨m, ⟨o, _, _, ho, _⟩, _⟩ := I.loc
    exact free _ o (fun z => (hch _ z).2.1 rfl) ho I.free
  · obtain ⟨v, o, ho, hd⟩ := I.cell x c e
    exact free c o (fun z => (hch c z).2.2.1 x c e rfl) ho (I.freeC x c e)
  · obtain ⟨e, n, ne, nf, d⟩ := I.pin p hp
    have nch : p.1 ∉ ch := fun z => (hch p.1 z).2.2.2 p hp rfl
    exact ⟨keep p.1 p.2 ne nf nch e n, free p.1 p.2 nch e n, ne, nf, d⟩
theorem Inv.un {t' : Nat} (I : Inv X pins σ H s) (u : Un X.fs [] H H' s.heap h') (hok : HOk X.prog X.w H' h') : Inv X pins σ H' { s with heap := h', toks := t' } := by
  obtain ⟨m, ⟨o, es, ep, ho, r⟩, _⟩ := id I.loc
  obtain ⟨sl, hL⟩ := u.any ho I.free (by simp)
  exact I.step (g' := s.gens) (d' := s.drawn) (ch := []) (fun _ z => nomatch z) (fun b o _ hb _ e n => u.keep b o e n hb (by simp)) (fun b o _ hb _ e n => u.slot b o e n hb (by simp)) (fun b o _ e n => u.free b o e n (by simp)) (fun b o _ e => u.there b o e (by simp)) u.tups u.frzs u.tbls (fun m' hm => by
    obtain ⟨o', es', ep', ho', r'⟩ := hm
    rw [ho] at ho'; cases ho'
    exact ⟨_, es', ep', hL, r'⟩) hok I.bare
theorem Inv.call {g' : Array GenState} {t' : Nat} {d' : Drawn} {ch : List Addr} (I : Inv X pins σ H s) (u : Un (frs X.stack) ch H H' s.heap h') (hok : HOk X.prog X.w H' h') (hg : AllBare g')
    (hch : ∀ b ∈ ch, (b ∈ X.ex ∨ X.s₀.heap.objs.size ≤ b) ∧ b ≠ X.env.locals ∧ (∀ x c, X.env.cells.lookup x = some c → c ≠ b) ∧ ∀ p ∈ X.pn ++ pins, p.1 ≠ b) :
    Inv X pins σ H' { s with heap := h', gens := g', drawn := d', toks := t' } := by
  obtain ⟨m, ⟨o, es, ep, ho, r⟩, _⟩ := id I.loc
  obtain ⟨sl, hL⟩ := u.any ho I.free fun z => (hch _ z).2.1 rfl
  exact I.step (ch := ch) hch (fun b o hL hb hc e n => u.keep b o e n (fun z => (List.mem_cons.mp (I.stkSub b z)).elim hL hb) hc) (fun b o _ _ hc e n => u.any e n hc) (fun b o hc e n => u.free b o e n hc) (fun b o hc e => u.there b o e hc) u.tups u.frzs u.tbls (fun m' hm => by
    obtain ⟨o', es', ep', ho', r'⟩ := hm
    rw [ho] at ho'; cases ho'
    exact ⟨_, es', ep', hL, r'⟩) hok hg
theorem Inv.turned {t' : Nat} {it : Addr} (I : Inv X pins σ H s) (k : ∀ b o, b ≠ it → s.heap.get? b = some o → h'.get? b = some o) (hn : H it = none) (hL : it ≠ X.env.locals)
    (h1 : it ∈ X.ex ∨ X.s₀.heap.objs.size ≤ it) (h2 : ∀ x c, X.env.cells.lookup x = some c → c ≠ it) (h3 : ∀ p ∈ X.pn ++ pins, p.1 ≠ it) : Inv X pins σ H { s with heap := h', toks := t' } := by
  have nit : ∀ b u, H b = some u → b ≠ it := fun b u e z => by rw [z, hn] at e; cases e
  refine I.step (g' := s.gens) (d' := s.drawn) (ch := [it]) (fun b hb => ?_) (fun b o _ _ hc e _ => k b o (fun z => hc (by simp [z])) e) (fun b o _ _ hc e _ => ⟨o.slots, k b o (fun z => hc (by simp [z])) e⟩) (fun _ _ _ _ n => n)
    (fun b o hc e => ⟨o, k b o (fun z => hc (by simp [z])) e⟩) (fun _ _ e => e) (fun _ _ _ e => e) (fun b ps e => ⟨#[], by rw [e]; simp⟩) (fun m hm => ?_) (fun b u e => ?_) I.bare
  · have e : b = it := by simpa using hb
    subst e
    exact ⟨h1, hL, h2, h3⟩
  · obtain ⟨o, es, ep, ho, r⟩ := hm
    exact ⟨o, es, ep, k _ o (Ne.symm hL) ho, r⟩
  · refine (I.hok b u e).stay (fun c v hc q => k c v ?_ q) (fun _ q => q) fun _ _ q => q
    rcases hc with z | z
    · rw [z]; exact nit b u e
    · exact nit c _ z
theorem Inv.tok (I : Inv X pins σ H s) (t : Nat) : Inv X pins σ H { s with toks := t } := I.un (h' := s.heap) (t' := t) Un.refl I.hok
theorem Inv.kept {t' : Nat} (I : Inv X pins σ H s) (k : ∀ b u, s.heap.get? b = some u → h'.get? b = some u) : Inv X pins σ H { s with heap := h', toks := t' } := I.un (Un.kept k) (I.hok.kept k)
theorem Inv.laid {a : Addr} {o : HO} {t' : Nat} (I : Inv X pins σ H s) (k : ∀ b u, s.heap.get? b = some u → h'.get? b = some u) (hp : s.heap.objs.size ≤ a) (new : ObjOk X.prog X.w (upd H a o) h' a o) :
    Inv X pins σ (upd H a o) { s with heap := h', toks := t' } := I.un (Un.laid k hp (I.hok.fresh hp)) (I.hok.laid k hp new)
theorem Inv.write {x e : Addr} {o : HO} {t' : Nat} (I : Inv X pins σ H s) (mu : Mut (H x)) (he : e = x ∨ H e = some (.own x)) (k : ∀ b u, b ≠ e → s.heap.get? b = some u → h'.get? b = some u) (heo : ∃ u, h'.get? e = some u)
    (new : ObjOk X.prog X.w (upd H x o) h' x o) : Inv X pins σ (upd H x o) { s with heap := h', toks := t' } := I.un (Un.write mu he k heo) (I.hok.write mu he k heo new)
theorem Inv.pins_of {pins' : List (Addr × Obj)} (I : Inv X pins σ H s) (h : ∀ p ∈ pins', s.heap.get? p.1 = some p.2 ∧ H p.1 = none ∧ p.1 ≠ X.env.locals ∧ p.1 ∉ X.fs ∧ ∀ v, p.2.data ≠ .cell v) : Inv X pins' σ H s :=
  ⟨I.ok, I.os, I.bare, I.base, I.loc, I.cell, I.free, I.freeC, fun p hp => (List.mem_append.mp hp).elim (fun z => I.pin p (List.mem_append_left _ z)) (h p), I.hok, I.len⟩

theorem nodup_ix {N : List Str} (hN : N.Nodup) {i j : Nat} {x : Str} (a : N[i]? = some x) (b : N[j]? = some x) : i = j := by
  obtain ⟨h1, e1⟩ := List.getElem?_eq_some_iff.mp a
  obtain ⟨h2, e2⟩ := List.getElem?_eq_some_iff.mp b
  exact (List.getElem_inj hN).mp (e1.trans e2.symm)

theorem store_ok2 {M : Model} {A : Around} {E : Value → Shared → Prop} {i : Nat} {x : Str} {v : V} {u : Value} {Q : Unit → Shared → Prop} (I : Inv X pins σ H s) (hN : X.N.Nodup) (hi : X.N[i]? = some x) (hx : Loc X.env.scope x) (r : RelV v u)
    (h : ∀ s', Inv X pins (σ.set i (some v)) H s' → (∃ a, Heap.SameBut a s.heap s'.heap ∧ (a = X.env.locals ∨ X.env.cells.lookup x = some a)) → Q () s') (hf : X.fn x = true ∨ X.env.scope.names.lookup x = some .local := by first | exact .inl rfl | exact .inr rfl | assumption) : wpAny M A (storeName X.env x u) Q E s := by
  obtain ⟨m, hn, hl⟩ := id I.loc
  have hcls : (X.env.scope.kind == .class || (X.env.scope.kind == .module && X.env.locals != X.env.globals)) = false := by rw [I.ok.kind]; rfl
  have hiσ : i < σ.length := by rw [I.len]; exact (List.getElem?_eq_some_iff.mp hi).1
  have cne := I.cne
  have tracked : ∀ {a : Addr} {h' : Heap}, (∃ o, s.heap.get? a = some o ∧ H a = none) → Heap.SameBut a s.heap h' → HOk X.prog X.w H h' := fun {a h'} ha hs b ob e => by
    obtain ⟨_, _, hfree⟩ := ha
    refine (I.hok b ob e).stay (fun c w' hc q => (hs.2 c ?_).trans q) (fun _ q => q) fun _ _ q => q
    rintro rfl
    rcases hc with rfl | hc
    · rw [hfree] at e; cases e
    · rw [hfree] at hc; cases hc
  rcases hx with hk | hk
  · refine wpAny_storeName_local hk hn (fun h' hn' hs => ?_) hcls
    obtain ⟨oL, _, _, hoL, _⟩ := id hn
    refine h _ ⟨I.ok, I.os, I.bare, ⟨fun b o e n hb hx => ?_, fun b o e n hb hx => ?_, I.base.free, fun b o e hx => ?_, I.base.tups, I.base.frzs, I.base.tbls⟩, ⟨_, hn', fun j y v' e1 e2 e3 => ?_⟩, fun y c e => ?_, I.free, I.freeC, fun p hp => ?_, tracked ⟨oL, hoL, I.free⟩ hs, by simpa using I.len⟩ ⟨_, hs, .inl rfl⟩
    · exact (hs.2 b (Nat.ne_of_lt (Nat.lt_of_lt_of_le (Heap.lt_size e) I.ok.above))).trans (I.base.keep b o e n hb hx)
    · obtain ⟨sl, e1⟩ := I.base.slot b o e n hb hx
      exact ⟨sl, (hs.2 b (Nat.ne_of_lt (Nat.lt_of_lt_of_le (Heap.lt_size e) I.ok.above))).trans e1⟩
    · obtain ⟨o', e1⟩ := I.base.there b o e hx
      exact ⟨o', (hs.2 b (Nat.ne_of_lt (Nat.lt_of_lt_of_le (Heap.lt_size e) I.ok.above))).trans e1⟩
    · by_cases hj : j = i
      · subst hj
        rw [hi] at e1; cases e1
        rw [List.getElem?_set_self hiσ] at e2
        cases e2
        exact ⟨u, r, .inl ⟨hk, by simp⟩⟩
      · rw [List.getElem?_set_ne (Ne.symm hj)] at e2
        obtain ⟨u', r', q⟩ := hl j y v' e1 e2 e3
        refine ⟨u', r', ?_⟩
        rcases q with ⟨k, e⟩ | ⟨k, c, e, z⟩
        · refine .inl ⟨k, ?_⟩
          have : y ≠ x := fun e => hj (nodup_ix hN e1 (e ▸ hi))
          simp [this, e]
        · exact .inr ⟨k, c, e, z.sameBut hs (cne y c e)⟩
    · obtain ⟨w', z⟩ := I.cell y c e
      exact ⟨w', z.sameBut hs (cne y c e)⟩
    · obtain ⟨e, n, ne, nf, d⟩ := I.pin p hp
      exact ⟨(hs.2 p.1 ne).trans e, n, ne, nf, d⟩
  · have hfn : X.fn x = true := by
      rcases hf with z | z
      · exact z
      · rw [z] at hk; cases hk
    obtain ⟨c, hc⟩ := I.ok.has x (.inl hk)
    obtain ⟨w', z⟩ := I.cell x c hc
    refine wpAny_storeName_cell I.ok.kind hk hc z (fun h' hc' hs => ?_)
    obtain ⟨oc, hoc, hocd⟩ := id z
    refine h { s with heap := h' } ⟨I.ok, I.os, I.bare, ⟨fun b o e n hb hx => ?_, fun b o e n hb hx => ?_, I.base.free, fun b o e hx => ?_, I.base.tups, I.base.frzs, I.base.tbls⟩, ⟨m, hn.sameBut hs (Ne.symm (cne x c hc)), fun j y v' e1 e2 e3 => ?_⟩, fun y c' e => ?_, I.free, I.freeC, fun p hp => ?_, tracked ⟨oc, hoc, I.freeC x c hc⟩ hs, by simpa using I.len⟩ ⟨c, hs, .inr hc⟩
    · exact (hs.2 b (Nat.ne_of_lt (Nat.lt_of_lt_of_le (Heap.lt_size e) (I.ok.cab x c hfn hc)))).trans (I.base.keep b o e n hb hx)
    · obtain ⟨sl, e1⟩ := I.base.slot b o e n hb hx
      exact ⟨sl, (hs.2 b (Nat.ne_of_lt (Nat.lt_of_lt_of_le (Heap.lt_size e) (I.ok.cab x c hfn hc)))).trans e1⟩
    · obtain ⟨o', e1⟩ := I.base.there b o e hx
      exact ⟨o', (hs.2 b (Nat.ne_of_lt (Nat.lt_of_lt_of_le (Heap.lt_size e) (I.ok.cab x c hfn hc)))).trans e1⟩
    · by_cases hj : j = i
      · subst hj
        rw [hi] at e1; cases e1
        rw [List.getElem?_set_self hiσ] at e2
        cases e2
        exact ⟨u, r, .inr ⟨.inl hk, c, hc, hc'⟩⟩
      · rw [List.getElem?_set_ne (Ne.symm hj)] at e2
        obtain ⟨u', r', q⟩ := hl j y v' e1 e2 e3
        refine ⟨u', r', ?_⟩
        rcases q with q | ⟨k, c', e, z'⟩
        · exact .inl q
        · refine .inr ⟨k, c', e, z'.sameBut hs ?_⟩
          rintro rfl
          exact hj (nodup_ix hN e1 (I.ok.inj _ _ _ e hc ▸ hi))
    · by_cases hcc : c' = c
      · subst hcc; exact ⟨_, hc'⟩
      · obtain ⟨w2, z2⟩ := I.cell y c' e
        exact ⟨w2, z2.sameBut hs hcc⟩
    · obtain ⟨e, n, ne, nf, d⟩ := I.pin p hp
      refine ⟨(hs.2 p.1 ?_).trans e, n, ne, nf, d⟩
      intro q
      rw [q, hoc] at e
      have q' : oc = p.2 := Option.some.inj e
      exact d w' (by rw [← q']; exact hocd)
theorem store_ok {M : Model} {A : Around} {E : Value → Shared → Prop} {i : Nat} {x : Str} {v : V} {u : Value} {Q : Unit → Shared → Prop} (I : Inv X pins σ H s) (hN : X.N.Nodup) (hi : X.N[i]? = some x) (hx : Loc X.env.scope x) (r : RelV v u)
    (h : ∀ s', Inv X pins (σ.set i (some v)) H s' → Q () s') (hf : X.fn x = true ∨ X.env.scope.names.lookup x = some .local := by first | exact .inl rfl | exact .inr rfl | assumption) : wpAny M A (storeName X.env x u) Q E s :=
  store_ok2 I hN hi hx r (fun s' I' _ => h s' I') hf
theorem Inv.call' {s' : Shared} {ch : List Addr} (I : Inv X pins σ H s) (ho : s'.os = s.os) (u : Un (frs X.stack) ch H H' s.heap s'.heap) (hok : HOk X.prog X.w H' s'.heap) (hg : AllBare s'.gens)
    (hch : ∀ b ∈ ch, (b ∈ X.ex ∨ X.s₀.heap.objs.size ≤ b) ∧ b ≠ X.env.locals ∧ (∀ x c, X.env.cells.lookup x = some c → c ≠ b) ∧ ∀ p ∈ X.pn ++ pins, p.1 ≠ b) : Inv X pins σ H' s' := by
  obtain ⟨h', g', d', t', o'⟩ := s'
  have e : o' = s.os := ho
  subst e
  exact I.call (g' := g') (t' := t') (d' := d') u hok hg hch
end

abbrev XK := Value → Option Addr → Hp → Prop
abbrev St := List (Option V)
abbrev VK := V → Hp → Prop
abbrev TE := St → Hp → VK → Prop
abbrev TT := St → Hp → (Bool → Hp → Prop) → Prop
abbrev TA := St → Hp → (List V → Hp → Prop) → Prop
structure Ends where
  nx : St → Hp → Prop
  rt : VK
  bk : St → Hp → Prop := fun _ _ => False
  ct : St → Hp → Prop := fun _ _ => False
abbrev TS := Ends → St → Hp → Prop

inductive BlQ (x : V) (H : Hp) (Q : Bool → Hp → Prop) : Prop
  | mk (c : Bool) (e : x = .bl c) (q : Q c H) : BlQ x H Q
inductive AndQ (tb : TE) (σ : St) (x : V) (H : Hp) (Q : VK) : Prop
  | mk (c : Bool) (e : x = .bl c) (q : if c = true then tb σ H Q else Q (.bl false) H) : AndQ tb σ x H Q
inductive OrQ (tb : TE) (σ : St) (x : V) (H : Hp) (Q : VK) : Prop
  | mk (c : Bool) (e : x = .bl c) (q : if c = true then Q (.bl true) H else tb σ H Q) : OrQ tb σ x H Q
inductive NotQ (x : V) (H : Hp) (Q : VK) : Prop
  | mk (c : Bool) (e : x = .bl c) (q : Q (.bl (!c)) H) : NotQ x H Q
inductive IIQ (x y : V) (H : Hp) (k : Int → Int → Hp → Prop) : Prop
  | mk (i j : Int) (e : x = .int i) (e' : y = .int j) (q : k i j H) : IIQ x y H k
inductive PtQ (x : V) (H : Hp) (Q : Option Int → Hp → Prop) : Prop
  | mk (i : Int) (e : x = .int i) (q : Q (some i) H) : PtQ x H Q
inductive ParQ (i j : Nat) (N : St → Hp → Prop) (σ : St) (vs : List V) (H : Hp) : Prop
  | mk (v w : V) (e : vs = [v, w]) (q : N ((σ.set i (some v)).set j (some w)) H) : ParQ i j N σ vs H
inductive EP (X : Cx) (pins : List (Addr × Obj)) (σ : St) (Q : VK) (u : Value) (s' : Shared) : Prop
  | mk (v : V) (H' : Hp) (I : Inv X pins σ H' s') (r : RelV v u) (q : Q v H') : EP X pins σ Q u s'
inductive TP (X : Cx) (pins : List (Addr × Obj)) (σ : St) (Q : Bool → Hp → Prop) (b : Bool) (s' : Shared) : Prop
  | mk (H' : Hp) (I : Inv X pins σ H' s') (q : Q b H') : TP X pins σ Q b s'
inductive AP (X : Cx) (pins : List (Addr × Obj)) (σ : St) (Q : List V → Hp → Prop) (us : List Value) (s' : Shared) : Prop
  | mk (vs : List V) (H' : Hp) (I : Inv X pins σ H' s') (r : Vals vs us) (q : Q vs H') : AP X pins σ Q us s'
theorem EP.elim {X : Cx} {pins : List (Addr × Obj)} {σ : St} {Q : VK} {u : Value} {s' : Shared} {G : Prop} (h : EP X pins σ Q u s') (k : ∀ (v : V) (H' : Hp), Inv X pins σ H' s' → RelV v u → Q v H' → G) : G := by
  cases h with
  | mk v H' I r q => exact k v H' I r q
theorem AP.elim {X : Cx} {pins : List (Addr × Obj)} {σ : St} {Q : List V → Hp → Prop} {us : List Value} {s' : Shared} {G : Prop} (h : AP X pins σ Q us s') (k : ∀ (vs : List V) (H' : Hp), Inv X pins σ H' s' → Vals vs us → Q vs H' → G) : G := by
  cases h with
  | mk v H' I r q => exact k v H' I r q
theorem TP.elim {X : Cx} {pins : List (Addr × Obj)} {σ : St} {Q : Bool → Hp → Prop} {b : Bool} {s' : Shared} {G : Prop} (h : TP X pins σ Q b s') (k : ∀ H' : Hp, Inv X pins σ H' s' → Q b H' → G) : G := by
  cases h with
  | mk H' I q => exact k H' I q
inductive SPN (X : Cx) (pins : List (Addr × Obj)) (N : St → Hp → Prop) (s' : Shared) : Prop
  | mk (σ : St) (H' : Hp) (I : Inv X pins σ H' s') (q : N σ H') : SPN X pins N s'
inductive SPR (X : Cx) (pins : List (Addr × Obj)) (Q : VK) (u : Value) (s' : Shared) : Prop
  | mk (v : V) (σ : St) (H' : Hp) (I : Inv X pins σ H' s') (r : RelV v u) (q : Q v H') : SPR X pins Q u s'
def SP (X : Cx) (pins : List (Addr × Obj)) (D : Ends) (f : Flow) (s' : Shared) : Prop :=
  match f with
  | .next => SPN X pins D.nx s'
  | .brk => SPN X pins D.bk s'
  | .cont => SPN X pins D.ct s'
  | .ret u => SPR X pins D.rt u s'

def PE (X : Cx) (e : Expr) (t : TE) : Prop :=
  ∀ (pins : List (Addr × Obj)) (s : Shared) (σ : St) (H : Hp) (Q : VK), Inv X pins σ H s → t σ H Q → wpAny (model X.prog X.w) X.A (eval e X.env) (EP X pins σ Q) X.xe s
def PT (X : Cx) (e : Expr) (t : TT) : Prop :=
  ∀ (pins : List (Addr × Obj)) (s : Shared) (σ : St) (H : Hp) (Q : Bool → Hp → Prop), Inv X pins σ H s → t σ H Q → wpAny (model X.prog X.w) X.A (isTrue e X.env (eval e X.env)) (TP X pins σ Q) X.xe s
def PW (X : Cx) (e : Expr) (t : TT) : Prop :=
  ∀ (whole : Sem Value) (pins : List (Addr × Obj)) (s : Shared) (σ : St) (H : Hp) (Q : Bool → Hp → Prop), Inv X pins σ H s → t σ H Q → wpAny (model X.prog X.w) X.A (isTrue e X.env whole) (TP X pins σ Q) X.xe s
theorem PW.pt {X : Cx} {e : Expr} {t : TT} (h : PW X e t) : PT X e t := h _
def PA (X : Cx) (es : List Expr) (t : TA) : Prop :=
  ∀ (pos : Pos) (pins : List (Addr × Obj)) (s : Shared) (σ : St) (H : Hp) (Q : List V → Hp → Prop), Inv X pins σ H s → t σ H Q → wpAny (model X.prog X.w) X.A (spliced (backTo pos (starEach es X.env))) (AP X pins σ Q) X.xe s
def PS (X : Cx) (st : Stmt) (t : TS) : Prop :=
  ∀ (pins : List (Addr × Obj)) (s : Shared) (σ : St) (H : Hp) (D : Ends), Inv X pins σ H s → t D σ H → wpAny (model X.prog X.w) X.A (exec st X.env) (SP X pins D) X.xe s
def PSs (X : Cx) (st : List Stmt) (t : TS) : Prop :=
  ∀ (pins : List (Addr × Obj)) (s : Shared) (σ : St) (H : Hp) (D : Ends), Inv X pins σ H s → t D σ H → wpAny (model X.prog X.w) X.A (execs st X.env) (SP X pins D) X.xe s
theorem thn {α : Type} {t : Sem α} {Q Q' : α → Shared → Prop} {M : Model} {A : Around} {E : Value → Shared → Prop} {s : Shared} (h : wpAny M A t Q E s) (hQ : ∀ a s, Q a s → Q' a s) : wpAny M A t Q' E s := wpAny_mono h hQ fun _ _ x => x
end L2

namespace L2
open PySem PySem.Spec PyProof.Rows
section
variable {X : Cx}

inductive tVarI (i : Nat) (σ : St) (H : Hp) (Q : VK) : Prop
  | mk (v : _) (x0 : σ[i]? = some (some v)) (x1 : Q v H) : tVarI i σ H Q
def tVar (i : Nat) : TE := fun σ H Q => tVarI i σ H Q
def tC (v : V) : TE := fun _ H Q => Q v H
theorem pe_var {i : Nat} {x : Str} {pos : Pos} (hN : X.N[i]? = some x) (hv : Vis X.env.scope x) (hd : (x == ("__debug__" : Str)) = false := by decide) (hcd : (x == ("__classdict__" : Str)) = false := by decide) : PE X (.Name x pos) (tVar i) := by
  intro pins s σ H Q I h
  obtain ⟨v, e, h⟩ := h
  obtain ⟨m, hn, hl⟩ := I.loc
  obtain ⟨u, r, l⟩ := hl i x v hN e hv
  have fin : EP X pins σ Q u s := ⟨v, H, I, r, h⟩
  rcases l with ⟨hk, hm⟩ | ⟨hk, c, hc, hcell⟩
  · exact wpAny_Name (wpAny_loadName_local I.ok.kind hk hn hm fin) hd
  · rcases hk with hk | hk
    · exact wpAny_Name (wpAny_loadName_cell I.ok.kind hk hc hcell fin) hd
    · exact wpAny_Name (wpAny_loadName_free I.ok.kind hk hc hcell fin hcd) hd
theorem pe_int {i j pos} : PE X (.Constant (.int i) j pos) (tC (.int i)) := fun _ _ _ H _ I h => wpAny_Constant_int ⟨.int i, H, I.tok _, ⟨_, rfl⟩, h⟩
theorem pe_bl {b j pos} : PE X (.Constant (.bool b) j pos) (tC (.bl b)) := fun _ _ _ H _ I h => Constant_bool ⟨.bl b, H, I, rfl, h⟩
theorem pe_non {j pos} : PE X (.Constant .none j pos) (tC .non) := fun _ _ _ H _ I h => Constant_none ⟨.non, H, I, rfl, h⟩
theorem pe_str {x j pos} : PE X (.Constant (.str x) j pos) (tC (.str x)) := fun _ _ _ H _ I h => Calls.Constant_str ⟨.str x, H, I.tok _, ⟨_, rfl⟩, h⟩

def Gl (X : Cx) (x : Str) : Prop := X.env.kindOf x = some .globalImplicit
theorem ld_glob {E : Value → Shared → Prop} {pins : List (Addr × Obj)} {s : Shared} {σ : St} {H : Hp} {x : Str} {u : Value} {pos : Pos} {Q : Value → Shared → Prop} (I : Inv X pins σ H s) (hg : Gl X x) (hm : X.mg x = some u) (h : Q u s)
    (hd : (x == ("__debug__" : Str)) = false := by decide) : wpAny (model X.prog X.w) X.A (eval (.Name x pos) X.env) Q E s :=
  Calls.Name_function_global I.ok.kind hg (Calls.loadGlobal_global (by rw [I.ok.glob]; exact I.mod.glob.keeps I.bk) hm h) hd
theorem ld_blt {E : Value → Shared → Prop} {pins : List (Addr × Obj)} {s : Shared} {σ : St} {H : Hp} {x : Str} {u : Value} {pos : Pos} {Q : Value → Shared → Prop} (I : Inv X pins σ H s) (hg : Gl X x) (hm : X.mg x = none) (hv : bootBuiltins x = some u) (h : Q u s)
    (hn : x ≠ "__name__" := by decide) (hd : (x == ("__debug__" : Str)) = false := by decide) : wpAny (model X.prog X.w) X.A (eval (.Name x pos) X.env) Q E s := by
  obtain ⟨mb, h1, h2⟩ := I.mod.blt
  exact Calls.Name_function_global I.ok.kind hg (Calls.loadGlobal_builtin (by rw [I.ok.glob]; exact I.mod.glob.keeps I.bk) hm (by rw [I.ok.blt]; exact h1.keeps I.bk) ((h2 x hn).trans hv) h) hd
theorem pe_glob {x : Str} {v : V} {u : Value} {pos : Pos} (hg : Gl X x) (hm : X.mg x = some u) (r : RelV v u) (hd : (x == ("__debug__" : Str)) = false := by decide) : PE X (.Name x pos) (tC v) :=
  fun _ _ _ H _ I h => ld_glob I hg hm ⟨v, H, I, r, h⟩ hd
theorem pe_bltn {x : Str} {v : V} {u : Value} {pos : Pos} (hg : Gl X x) (hm : X.mg x = none) (hv : bootBuiltins x = some u) (r : RelV v u) (hn : x ≠ "__name__" := by decide) (hd : (x == ("__debug__" : Str)) = false := by decide) : PE X (.Name x pos) (tC v) :=
  fun _ _ _ H _ I h => ld_blt I hg hm hv ⟨v, H, I, r, h⟩ hn hd

variable {a b : Expr} {ta tb : TE} {pos : Pos}
def PC (X : Cx) (op : CmpOp) (a b : Expr) (t : TE) : Prop :=
  ∀ (pins : List (Addr × Obj)) (s : Shared) (σ : St) (H : Hp) (Q : VK), Inv X pins σ H s → t σ H Q →
    wpAny (model X.prog X.w) X.A (eval a X.env) (fun v s₁ => wpAny (model X.prog X.w) X.A (eval b X.env) (fun u s₂ => wpAny (model X.prog X.w) X.A (compareOp op v u) (EP X pins σ Q) X.xe s₂) X.xe s₁) X.xe s
theorem nobehind (b : Expr) {op : CmpOp} (h : op ≠ .In) (h2 : op ≠ .NotIn) : behindInMarks op b = false := by
  have e1 : (op == CmpOp.In) = false := by cases op <;> first | rfl | exact absurd rfl h
  have e2 : (op == CmpOp.NotIn) = false := by cases op <;> first | rfl | exact absurd rfl h2
  cases b <;> simp [behindInMarks, e1, e2]
def tB (t : TE) : TT := fun σ H Q => t σ H fun x H1 => BlQ x H1 Q
theorem pt_cmp {op : CmpOp} {t : TE} (h : PC X op a b t) (h1 : behindInMarks op b = false := by first | exact nobehind _ (by decide) (by decide) | rfl) : PT X (.Compare a [op] [b] pos) (tB t) := by
  intro pins s σ H Q I hw
  refine wpAny_isTrue_Compare1 (thn (h pins s σ H _ I hw) fun v s1 h1 => thn h1 fun u s2 h2 => thn h2 fun c s3 zq => zq.elim fun x H1 I1 r1 q1 => ?_) h1
  obtain ⟨d, rfl, q⟩ := q1
  cases r1
  exact wpAny_truthy_bool ⟨H1, I1, q⟩
theorem pt_val {e : Expr} {t : TE} (h : PE X e t) (he : ∀ whole, isTrue e X.env whole = (do let v ← whole; standAt e.pos; holding [v] (truthy v)) := by intro _; rfl) : PT X e (tB t) := by
  intro pins s σ H Q I hw
  refine isTrue_plain (thn (h pins s σ H _ I hw) fun v s1 zq => zq.elim fun x H1 I1 r1 q1 => ?_) (he _)
  obtain ⟨d, rfl, q⟩ := q1
  cases r1
  exact wpAny_truthy_bool ⟨H1, I1, q⟩

variable {tA tB' : TT} {rest : List Expr}
def tAnd (t u : TT) : TT := fun σ H Q => t σ H fun c H1 => if c = true then u σ H1 Q else Q false H1
def tOr (t u : TT) : TT := fun σ H Q => t σ H fun c H1 => if c = true then Q true H1 else u σ H1 Q
def tNot (t : TT) : TT := fun σ H Q => t σ H fun c H1 => Q (!c) H1
theorem pw_and1 (ha : PT X a tA) : PW X (.BoolOp .And [a] pos) tA := by
  intro wh pins s σ H Q I h
  refine isTrue_and (thn (ha pins s σ H Q I h) fun c s1 e => ?_)
  cases c with
  | true => exact isTrue_and_nil e
  | false => exact e
theorem pw_or1 (ha : PT X a tA) : PW X (.BoolOp .Or [a] pos) tA := by
  intro wh pins s σ H Q I h
  refine isTrue_or (thn (ha pins s σ H Q I h) fun c s1 e => ?_)
  cases c with
  | false => exact isTrue_or_nil e
  | true => exact e
theorem pw_and (ha : PT X a tA) (hb : PW X (.BoolOp .And (b :: rest) pos) tB') : PW X (.BoolOp .And (a :: b :: rest) pos) (tAnd tA tB') := by
  intro wh pins s σ H Q I h
  refine isTrue_and (thn (ha pins s σ H _ I h) fun c s1 zq => zq.elim fun H1 I1 q1 => ?_)
  cases c with
  | true => exact hb wh pins s1 σ H1 Q I1 q1
  | false => exact ⟨H1, I1, q1⟩
theorem pw_or (ha : PT X a tA) (hb : PW X (.BoolOp .Or (b :: rest) pos) tB') : PW X (.BoolOp .Or (a :: b :: rest) pos) (tOr tA tB') := by
  intro wh pins s σ H Q I h
  refine isTrue_or (thn (ha pins s σ H _ I h) fun c s1 zq => zq.elim fun H1 I1 q1 => ?_)
  cases c with
  | true => exact ⟨H1, I1, q1⟩
  | false => exact hb wh pins s1 σ H1 Q I1 q1
theorem pt_not (ha : PT X a tA) : PT X (.UnaryOp .Not a pos) (tNot tA) := by
  intro pins s σ H Q I h
  exact isTrue_not (thn (ha pins s σ H (fun c H1 => Q (!c) H1) I h) fun c s1 zq => zq.elim fun H1 I1 q1 => ⟨H1, I1, q1⟩)
def tAndV (ta tb : TE) : TE := fun σ H Q => ta σ H fun x H1 => AndQ tb σ x H1 Q
def tNotV (ta : TE) : TE := fun σ H Q => ta σ H fun x H1 => NotQ x H1 Q
theorem pe_one {op} {t : TE} (h : PE X a t) : PE X (.BoolOp op [a] pos) t := fun pins s σ H Q I hw => BoolOp_one (h pins s σ H Q I hw)
theorem pe_and (ha : PE X a ta) (hb : PE X (.BoolOp .And (b :: rest) pos) tb) : PE X (.BoolOp .And (a :: b :: rest) pos) (tAndV ta tb) := by
  intro pins s σ H Q I h
  refine BoolOp_and (thn (ha pins s σ H _ I h) fun v s1 zq => zq.elim fun x H1 I1 r1 q1 => ?_)
  obtain ⟨c, rfl, q1⟩ := q1
  cases r1
  refine wpAny_truthy_bool ?_
  cases c with
  | true => exact hb pins s1 σ H1 Q I1 q1
  | false => exact ⟨.bl false, H1, I1, rfl, q1⟩
theorem pe_not (ha : PE X a ta) : PE X (.UnaryOp .Not a pos) (tNotV ta) := by
  intro pins s σ H Q I h
  refine UnaryOp_ (thn (ha pins s σ H _ I h) fun v s1 zq => zq.elim fun x H1 I1 r1 q1 => ?_)
  obtain ⟨c, rfl, q1⟩ := q1
  cases r1
  exact not_of (wpAny_truthy_bool ⟨.bl (!c), H1, I1, rfl, q1⟩)
end
end L2

namespace L2
open PySem PySem.Spec PyProof.Rows

def SqL (K : PySem.W.Frag) (H : Hp) (a : Addr) (xs : List V) : Prop :=
  Rd H a (.lst xs) ∨
    ∃ (o : Obj) (its : Array Value) (n : Nat), K.lookup a = some o ∧ o.cls = .type "list" ∧ o.dict = none ∧ o.data = .seq its n ∧ its.size ≤ sizeLine ∧ Vals xs its.toList
def SqT (K : PySem.W.Frag) (H : Hp) (a : Addr) (xs : List V) : Prop :=
  Rd H a (.tup xs) ∨
    ∃ (o : Obj) (its : Array Value) (n : Nat), K.lookup a = some o ∧ o.cls = .type "tuple" ∧ o.data = .seq its n ∧ its.size ≤ sizeLine ∧ Vals xs its.toList
def absV : Value → Option V
  | .none => some .non
  | .bool b => some (.bl b)
  | .int i _ => some (.int i)
  | .str x _ => some (.str x)
  | .bytes b _ => some (.byt b)
  | .float b _ => some (.flt b)
  | .ref a => some (.ref a)
  | .type n => some (.ty n)
  | _ => none
theorem RelV.abs {x : V} {u : Value} (r : RelV x u) : absV u = some x := by
  cases x with
  | non => cases r; rfl
  | bl _ => cases r; rfl
  | int _ => obtain ⟨t, rfl⟩ := r; rfl
  | str _ => obtain ⟨t, rfl⟩ := r; rfl
  | byt _ => obtain ⟨t, rfl⟩ := r; rfl
  | flt _ => obtain ⟨t, rfl⟩ := r; rfl
  | ref _ => cases r; rfl
  | ty _ => cases r; rfl
theorem RelV.inj {x y : V} {u : Value} (r : RelV x u) (q : RelV y u) : x = y := Option.some.inj (r.abs.symm.trans q.abs)
theorem Vals.inj {xs ys : List V} {us : List Value} (r : Vals xs us) (s : Vals ys us) : xs = ys := by
  induction r generalizing ys with
  | nil => exact (List.eq_nil_of_length_eq_zero (Paired.length s)).symm
  | cons a _ ih =>
    cases ys with
    | nil => exact absurd (Paired.length s) (Nat.succ_ne_zero _).symm
    | cons y yr =>
      obtain ⟨u, ur, e, h, t⟩ := Vals.inv s
      injection e with e1 e2
      subst e1 e2
      rw [a.inj h, ih t]
section
variable {X : Cx} {pins : List (Addr × Obj)} {σ : St} {H : Hp} {s : Shared} {a : Addr} {xs ys : List V}
theorem SqL.of {K : PySem.W.Frag} (h : H a = some (.lst xs)) : SqL K H a xs := .inl (.inl h)
theorem SqT.of {K : PySem.W.Frag} (h : H a = some (.tup xs)) : SqT K H a xs := .inl (.inl h)
theorem Inv.list (I : Inv X pins σ H s) (h : SqL X.K H a xs) : ∃ its : List Value, Vals xs its ∧ PlainL s.heap a its.toArray ∧ xs.length ≤ sizeLine := by
  rcases h with h | ⟨o, its, n, hk, hc, hd, hs, hz, r⟩
  · obtain ⟨z, its, n, r, e⟩ := h.ok I.hok
    exact ⟨its, r, ⟨_, n, e, rfl, rfl, rfl⟩, z⟩
  · refine ⟨its.toList, r, ⟨o, n, I.kIn a o hk, hc, hd, by simpa using hs⟩, ?_⟩
    have e := r.length
    simp only [Array.length_toList] at e
    omega
theorem Inv.tuple (I : Inv X pins σ H s) (h : SqT X.K H a xs) : ∃ its : List Value, Vals xs its ∧ IsTup s.heap a its.toArray ∧ xs.length ≤ sizeLine := by
  rcases h with h | ⟨o, its, n, hk, hc, hs, hz, r⟩
  · obtain ⟨z, its, r, p⟩ := h.ok I.hok
    exact ⟨its, r, p, z⟩
  · refine ⟨its.toList, r, ⟨o, I.kIn a o hk, hc, n, by simpa using hs⟩, ?_⟩
    have e := r.length
    simp only [Array.length_toList] at e
    omega
theorem Inv.list_inj (I : Inv X pins σ H s) (h : SqL X.K H a xs) (h' : SqL X.K H a ys) : xs = ys := by
  obtain ⟨its, r, ⟨o, n, e, _, _, d⟩, _⟩ := I.list h
  obtain ⟨its', r', ⟨o', n', e', _, _, d'⟩, _⟩ := I.list h'
  rw [e] at e'; cases e'
  rw [d] at d'
  injection d' with d1 _
  have : its = its' := by simpa using congrArg Array.toList d1
  subst this
  exact r.inj r'
end

abbrev Cx.wish (X : Cx) (E : Value → Shared → Prop) : Cx := { X with xe := E }
abbrev Cx.nox (X : Cx) : Cx := X.wish fun _ _ => False
theorem Cx.Ok.wish {X : Cx} (ok : X.Ok) (E : Value → Shared → Prop) : (X.wish E).Ok :=
  ⟨ok.mod, ok.kind, ok.glob, ok.blt, ok.above, ok.inj, ok.has, ok.cab, ok.hd, ok.frames, ok.stk, ok.exf, ok.bs, ok.bsz, ok.noex, ok.exfs, ok.funs, ok.frf⟩
theorem Cx.Ok.unwish {X : Cx} {E : Value → Shared → Prop} (ok : (X.wish E).Ok) : X.Ok :=
  ⟨ok.mod, ok.kind, ok.glob, ok.blt, ok.above, ok.inj, ok.has, ok.cab, ok.hd, ok.frames, ok.stk, ok.exf, ok.bs, ok.bsz, ok.noex, ok.exfs, ok.funs, ok.frf⟩
section
variable {X : Cx} {pins : List (Addr × Obj)} {σ : St} {H : Hp} {s : Shared} {E : Value → Shared → Prop}
theorem Inv.wish (I : Inv X pins σ H s) (E : Value → Shared → Prop) : Inv (X.wish E) pins σ H s := ⟨I.ok.wish E, I.os, I.bare, I.base, I.loc, I.cell, I.free, I.freeC, I.pin, I.hok, I.len⟩
theorem Inv.unwish (I : Inv (X.wish E) pins σ H s) : Inv X pins σ H s := ⟨I.ok.unwish, I.os, I.bare, I.base, I.loc, I.cell, I.free, I.freeC, I.pin, I.hok, I.len⟩
theorem SP.unwish {D : Ends} {f : Flow} {s' : Shared} (h : SP (X.wish E) pins D f s') : SP X pins D f s' := by
  cases f with
  | next => obtain ⟨σ', H', I, q⟩ := h; exact ⟨σ', H', I.unwish, q⟩
  | brk => obtain ⟨σ', H', I, q⟩ := h; exact ⟨σ', H', I.unwish, q⟩
  | cont => obtain ⟨σ', H', I, q⟩ := h; exact ⟨σ', H', I.unwish, q⟩
  | ret u => obtain ⟨v, σ', H', I, r, q⟩ := h; exact ⟨v, σ', H', I.unwish, r, q⟩
theorem PE.nox {e : Expr} {t : TE} (h : PE X.nox e t) : PE X e t := fun pins s σ H Q I hw =>
  wpAny_mono (h pins s σ H Q (I.wish _) hw) (fun _ _ zq => zq.elim fun v H' I' r q => ⟨v, H', I'.unwish, r, q⟩) fun _ _ z => False.elim z
theorem PT.nox {e : Expr} {t : TT} (h : PT X.nox e t) : PT X e t := fun pins s σ H Q I hw =>
  wpAny_mono (h pins s σ H Q (I.wish _) hw) (fun _ _ zq => zq.elim fun H' I' q => ⟨H', I'.unwish, q⟩) fun _ _ z => False.elim z
theorem PSs.nox {st : List Stmt} {t : TS} (h : PSs X.nox st t) : PSs X st t := fun pins s σ H D I hw =>
  wpAny_mono (h pins s σ H D (I.wish _) hw) (fun _ _ q => q.unwish) fun _ _ z => False.elim z
end

section
variable {X : Cx} {st : Stmt} {rest : List Stmt} {t u : TS} {e : Expr} {te : TE} {pos : Pos}
def tNext : TS := fun D σ H => D.nx σ H
def tSeq (t u : TS) : TS := fun D σ H => t { D with nx := u D } σ H
theorem pss_nil : PSs X [] tNext := fun _ _ σ H _ I h => wpAny_execs_nil ⟨σ, H, I, h⟩
theorem pss_cons (h1 : PS X st t) (h2 : PSs X rest u) : PSs X (st :: rest) (tSeq t u) := by
  intro pins s σ H D I h
  refine wpAny_execs_cons (thn (h1 pins s σ H { D with nx := u D } I h) fun f s1 q => ?_)
  cases f with
  | next =>
    obtain ⟨σ', H', I', q⟩ := q
    exact h2 pins s1 σ' H' D I' q
  | ret v => exact q
  | brk => exact q
  | cont => exact q
theorem pss_one (h1 : PS X st t) : PSs X [st] t := by
  intro pins s σ H D I h
  refine wpAny_execs_cons (thn (h1 pins s σ H D I h) fun f s1 q => ?_)
  cases f with
  | next => exact wpAny_execs_nil q
  | ret v => exact q
  | brk => exact q
  | cont => exact q
theorem Inv.quiet {pins : List (Addr × Obj)} {σ : St} {H : Hp} {s : Shared} (I : Inv X pins σ H s) : interactive X.env = false := by simp [interactive, I.ok.kind]
def tDrop (te : TE) : TS := fun D σ H => te σ H fun _ H1 => D.nx σ H1
theorem ps_expr (he : PE X e te) (hs : swapsWith e none pos.line X.env = pure false := by rfl) : PS X (.Expr e pos) (tDrop te) := by
  intro pins s σ H D I h
  exact wpAny_Expr_any (thn (he pins s σ H _ I h) fun v s1 zq => zq.elim fun x H1 I1 r1 q1 => ⟨σ, H1, I1, q1⟩) I.quiet hs
def tRet (te : TE) : TS := fun D σ H => te σ H D.rt
theorem ps_ret (he : PE X e te) : PS X (.Return (some e) pos) (tRet te) := by
  intro pins s σ H D I h
  exact wpAny_Return_some (thn (he pins s σ H _ I h) fun v s1 zq => zq.elim fun x H1 I1 r1 q1 => ⟨x, σ, H1, I1, r1, q1⟩)
def tIfS (c : TT) (t u : TS) : TS := fun D σ H => c σ H fun b H1 => if b = true then t D σ H1 else u D σ H1
theorem ps_if {c : Expr} {a b : List Stmt} {tc : TT} (hc : PT X c tc) (ha : PSs X a t) (hb : PSs X b u) : PS X (.If c a b pos) (tIfS tc t u) := by
  intro pins s σ H D I h
  refine wpAny_If (thn (hc pins s σ H _ I h) fun d s1 zq => zq.elim fun H1 I1 q1 => ?_)
  cases d with
  | true => exact ha pins s1 σ H1 D I1 q1
  | false => exact hb pins s1 σ H1 D I1 q1
end

abbrev TG := V → St → Hp → (St → Hp → Prop) → Prop
abbrev TGs := List V → St → Hp → (St → Hp → Prop) → Prop
def PG (X : Cx) (target : Expr) (t : TG) : Prop :=
  ∀ (pins : List (Addr × Obj)) (s : Shared) (σ : St) (H : Hp) (v : V) (u : Value) (Q : St → Hp → Prop), Inv X pins σ H s → RelV v u → t v σ H Q →
    wpAny (model X.prog X.w) X.A (assign target X.env u) (fun _ s' => ∃ σ' H', Inv X pins σ' H' s' ∧ Q σ' H') X.xe s
def PGs (X : Cx) (ts : List Expr) (t : TGs) : Prop :=
  ∀ (pins : List (Addr × Obj)) (s : Shared) (σ : St) (H : Hp) (vs : List V) (us : List Value) (Q : St → Hp → Prop), Inv X pins σ H s → Vals vs us → t vs σ H Q →
    wpAny (model X.prog X.w) X.A (assignInOrder ((assignEach ts X.env).map (·.2)) us) (fun _ s' => ∃ σ' H', Inv X pins σ' H' s' ∧ Q σ' H') X.xe s
abbrev TIp := V → V → Hp → VK → Prop
section
variable {X : Cx} {pos : Pos}
def gName (i : Nat) : TG := fun v σ H Q => Q (σ.set i (some v)) H
theorem pg_name {i : Nat} {x : Str} (hN : X.N.Nodup) (hi : X.N[i]? = some x) (hx : Loc X.env.scope x) (hf : X.fn x = true ∨ X.env.scope.names.lookup x = some .local := by first | exact .inl rfl | exact .inr rfl | assumption) : PG X (.Name x pos) (gName i) := by
  intro pins s σ H v u Q I r h
  exact wpAny_assign_Name (store_ok I hN hi hx r (fun s' I' => ⟨_, H, I', h⟩) hf)
def gNil : TGs := fun vs σ H Q => vs = [] ∧ Q σ H
inductive gConsI (t : TG) (u : TGs) (vs : List V) (σ : St) (H : Hp) (Q : (St → Hp → Prop)) : Prop
  | mk (v : _) (r : _) (x0 : vs = v :: r) (x1 : t v σ H fun σ' H' => u r σ' H' Q) : gConsI t u vs σ H Q
def gCons (t : TG) (u : TGs) : TGs := fun vs σ H Q => gConsI t u vs σ H Q
theorem pgs_nil : PGs X [] gNil := by
  intro pins s σ H vs us Q I r h
  obtain ⟨e, h⟩ := h
  subst e
  cases r
  exact assignInOrder_nil ⟨σ, H, I, h⟩
theorem pgs_cons {e : Expr} {es : List Expr} {t : TG} {u : TGs} (h1 : PG X e t) (h2 : PGs X es u)
    (hs : (assignEach (e :: es) X.env).map (·.2) = assign e X.env :: (assignEach es X.env).map (·.2) := by rfl) : PGs X (e :: es) (gCons t u) := by
  intro pins s σ H vs us Q I r h
  obtain ⟨v, vr, e1, h⟩ := h
  subst e1
  cases r with
  | cons r rr =>
    rw [hs]
    refine assignInOrder_cons (thn (h1 pins s σ H _ _ _ I r h) fun _ s1 ⟨σ1, H1, I1, q1⟩ => ?_)
    exact h2 pins s1 σ1 H1 _ _ Q I1 rr q1
inductive gTupI (K : PySem.W.Frag) (n : Nat) (t : TGs) (v : V) (σ : St) (H : Hp) (Q : (St → Hp → Prop)) : Prop
  | mk (a : _) (xs : _) (x0 : v = .ref a) (x1 : SqT K H a xs) (x2 : xs.length = n) (x3 : t xs σ H Q) : gTupI K n t v σ H Q
def gTup (K : PySem.W.Frag) (n : Nat) (t : TGs) : TG := fun v σ H Q => gTupI K n t v σ H Q
theorem pg_tup {es : List Expr} {k : Nat} {t : TGs} {n : Nat} (hc : X.calm = true) (h : PGs X es t)
    (hn : (assignEach es X.env).length = n := by rfl) (hst : (assignEach es X.env).findIdx? (·.1) = none := by rfl) : PG X (.Tuple es k pos) (gTup X.K n t) := by
  intro pins s σ H v u Q I r hw
  obtain ⟨a, xs, e1, hq, hl, hw⟩ := hw
  subst e1
  cases r
  obtain ⟨its, rv, ht, hz⟩ := I.tuple hq
  refine assign_Tuple_tuple (I.ok.hd hc) ht (by simp [hn, ← hl, rv.length]) hst fun h' hx => ?_
  have I1 : Inv X pins σ H { s with heap := h' } := I.kept (t' := s.toks) fun b o e => hx b o (Nat.ne_of_lt (Heap.lt_size e)) e
  exact h pins _ σ H xs _ Q I1 (by simpa using rv) hw
def tAsg (te : TE) (g : TG) : TS := fun D σ H => te σ H fun x H1 => g x σ H1 D.nx
theorem ps_asg {tg e : Expr} {te : TE} {g : TG} (he : PE X e te) (hg : PG X tg g) (hs : swapsWithSole [tg] e pos.line X.env = pure false := by rfl) (hw : swappedStores [tg] e X.env = pure none := by rfl)
    (h1 : (assignEach [tg] X.env).map (·.2) = [assign tg X.env] := by rfl) : PS X (.Assign [tg] e pos) (tAsg te g) := by
  intro pins s σ H D I h
  refine wpAny_Assign_stores (thn (he pins s σ H _ I h) fun v s1 zq => zq.elim fun x H1 I1 r1 q1 => ?_) hs hw
  rw [h1]
  exact thn (hg pins s1 σ H1 x v _ I1 r1 q1) fun _ s2 ⟨σ', H', I', q'⟩ => ⟨σ', H', I', q'⟩
theorem ps_set {i : Nat} {x : Str} {e : Expr} {te : TE} {pos' : Pos} (hN : X.N.Nodup) (hi : X.N[i]? = some x) (hx : Loc X.env.scope x) (he : PE X e te) (hs : swapsWith e (some (.Name x pos')) pos.line X.env = pure false := by rfl) (hf : X.fn x = true ∨ X.env.scope.names.lookup x = some .local := by first | exact .inl rfl | exact .inr rfl | assumption) :
    PS X (.Assign [.Name x pos'] e pos) (tAsg te (gName i)) := by
  intro pins s σ H D I h
  refine wpAny_Assign_Name (thn (he pins s σ H _ I h) fun v s1 zq => zq.elim fun y H1 I1 r1 q1 => ?_) hs
  exact store_ok I1 hN hi hx r1 (fun s2 I2 => ⟨_, H1, I2, q1⟩) hf
inductive tAugI (i : Nat) (te : TE) (ti : TIp) (D : Ends) (σ : St) (H : Hp) : Prop
  | mk (x : _) (x0 : σ[i]? = some (some x)) (x1 : te σ H fun y H1 => ti x y H1 fun z H2 => D.nx (σ.set i (some z)) H2) : tAugI i te ti D σ H
inductive ipII (f : Int → Int → Int) (x : V) (y : V) (H : Hp) (Q : VK) : Prop
  | mk (i : _) (j : _) (x0 : x = .int i) (x1 : y = .int j) (x2 : Q (.int (f i j)) H) : ipII f x y H Q
end

section
variable {X : Cx} {pos : Pos}
inductive tWhileI (c : TT) (tb : TS) (D : Ends) (σ : St) (H : Hp) : Prop
  | mk (W : Nat → St → Hp → Prop) (x0 : (∃ m, W m σ H)) (x1 : ∀ m σ H, W m σ H → c σ H fun b H1 => if b = true then ∃ N : St → Hp → Prop, (∀ σ' H', N σ' H' → ∃ m', m' < m ∧ W m' σ' H') ∧ tb { D with nx := N, ct := N, bk := D.nx } σ H1 else D.nx σ H1) : tWhileI c tb D σ H
def tWhile (c : TT) (tb : TS) : TS := fun D σ H => tWhileI c tb D σ H
theorem ps_while {c : Expr} {body : List Stmt} {tc : TT} {tb : TS} (hp : PassesOwn (model X.prog X.w) X.A X.env X.xe) (hc : PT X c tc) (hb : PSs X body tb) : PS X (.While c body [] pos) (tWhile tc tb) := by
  intro pins s σ H D I h
  obtain ⟨W, ⟨m0, w0⟩, turn⟩ := h
  refine wpAny_While (codeAny_whileLoop (fun n s' => ∃ σ' H', Inv X pins σ' H' s' ∧ W n σ' H') ?_ m0 ⟨σ, H, I, w0⟩)
  rintro n s1 ⟨σ1, H1, I1, w1⟩
  refine wpAny_passesOwn hp (thn (hc pins s1 σ1 H1 _ I1 (turn n σ1 H1 w1)) fun b s2 zq => zq.elim fun H2 I2 q2 => ?_)
  cases b with
  | true =>
    obtain ⟨N, hN, q2⟩ := q2
    rw [if_pos rfl]
    refine wpAny_passesOwn hp (thn (hb pins s2 σ1 H2 _ I2 q2) fun f s3 q3 => ?_)
    cases f with
    | next =>
      obtain ⟨σ3, H3, I3, n3⟩ := q3
      obtain ⟨m', hm, w3⟩ := hN σ3 H3 n3
      exact ⟨m', hm, σ3, H3, I3, w3⟩
    | cont =>
      obtain ⟨σ3, H3, I3, n3⟩ := q3
      obtain ⟨m', hm, w3⟩ := hN σ3 H3 n3
      exact ⟨m', hm, σ3, H3, I3, w3⟩
    | brk => exact q3
    | ret v => exact q3
  | false =>
    rw [if_neg Bool.false_ne_true]
    exact wpAny_execs_nil ⟨σ1, H2, I2, q2⟩
end

structure It where
  go : Nat → Hp → Prop
  yld : Nat → Hp → V → Hp → Prop
  stop : Nat → Hp → Prop
def FpOk (X : Cx) (pins : List (Addr × Obj)) (H : Hp) (b : Addr) : Prop :=
  H b = none ∧ b ≠ X.env.locals ∧ b ∉ X.fs ∧ (b ∈ X.ex ∨ X.s₀.heap.objs.size ≤ b) ∧ (∀ x c, X.env.cells.lookup x = some c → c ≠ b) ∧ ∀ p ∈ X.pn ++ pins, p.1 ≠ b
theorem Inv.fpOk {X : Cx} {pins : List (Addr × Obj)} {σ : St} {H H' : Hp} {s : Shared} {b : Addr} (I : Inv X pins σ H s) (hb : s.heap.objs.size ≤ b) (hn : H' b = none) : FpOk X pins H' b := by
  refine ⟨hn, Nat.ne_of_gt (Nat.lt_of_lt_of_le I.lt hb), I.nofs hb, .inr (Nat.le_trans I.sz hb), fun x c e z => ?_, fun p hp z => ?_⟩
  · obtain ⟨v, q⟩ := I.cell x c e
    exact absurd (Nat.lt_of_lt_of_le q.lt (by rw [z]; exact hb)) (Nat.lt_irrefl _)
  · exact absurd (Nat.lt_of_lt_of_le (Heap.lt_size (I.pin p hp).1) (by rw [z]; exact hb)) (Nat.lt_irrefl _)
structure Turn (P : Program) (w : World) (K : PySem.W.Frag) (tg : Expr) (J : It) (fp : List Addr) (it : Addr) (tn : Nat → Heap → Prop) : Prop where
  mem : it ∈ fp
  obj : ∀ i h, tn i h → ∀ b ∈ fp, ∃ o, h.get? b = some o ∧ ∀ v, o.data ≠ .cell v
  keep : ∀ i h h', tn i h → (∀ b ∈ fp, ∀ o, h.get? b = some o → h'.get? b = some o) → tn i h'
  item : ∀ (X : Cx), X.prog = P → X.w = w → X.K = K → X.calm = true → ∀ (i : Nat) (pins : List (Addr × Obj)) (s : Shared) (σ : St) (H : Hp) (E : Value → Shared → Prop), Inv X pins σ H s → (∀ b ∈ fp, FpOk X pins H b) → tn i s.heap → J.go i H →
    wpAny (model P w) X.A (pyNext (.ref it)) (fun r s1 => ∃ u, r = some u ∧
      wpAny (model P w) X.A (letOwnedTupleGo tg (.ref it) u) (fun _ s2 => ∃ x H', Inv X pins σ H' s2 ∧ RelV x u ∧ J.yld i H x H' ∧ tn (i + 1) s2.heap ∧ ∀ b ∈ fp, H' b = none) E s1) E s
  done : ∀ (X : Cx), X.prog = P → X.w = w → X.K = K → X.calm = true → ∀ (i : Nat) (pins : List (Addr × Obj)) (s : Shared) (σ : St) (H : Hp) (E : Value → Shared → Prop), Inv X pins σ H s → (∀ b ∈ fp, FpOk X pins H b) → tn i s.heap → J.stop i H →
    wpAny (model P w) X.A (pyNext (.ref it)) (fun r s1 => r = none ∧ Inv X pins σ H s1) E s
  self : ∀ (A : Around) (i : Nat) (s : Shared) (Q : Value → Shared → Prop) (E : Value → Shared → Prop), tn i s.heap → Q (.ref it) s → wpAny (model P w) A (pyIter (.ref it)) Q E s
abbrev TI := St → Hp → (It → Hp → Prop) → Prop
inductive PIE (X : Cx) (pins : List (Addr × Obj)) (σ : St) (tg : Expr) (R : It → Hp → Prop) (itv : Value) (s2 : Shared) : Prop
  | mk (it : Addr) (fp : List Addr) (tn : Nat → Heap → Prop) (J : It) (H' : Hp) (e : itv = .ref it) (I : Inv X pins σ H' s2) (t : Turn X.prog X.w X.K tg J fp it tn) (z : tn 0 s2.heap) (f : ∀ b ∈ fp, FpOk X pins H' b) (q : R J H') : PIE X pins σ tg R itv s2
def PI (X : Cx) (tg iter : Expr) (wi : TI) : Prop :=
  ∀ (pins : List (Addr × Obj)) (s : Shared) (σ : St) (H : Hp) (R : It → Hp → Prop), Inv X pins σ H s → wi σ H R →
    wpAny (model X.prog X.w) X.A (eval iter X.env) (fun v s1 => wpAny (model X.prog X.w) X.A (pyIter v) (PIE X pins σ tg R) X.xe s1) X.xe s

theorem go_of {M : Model} {A : Around} {E : Value → Shared → Prop} {s : Shared} {tg : Expr} {it : Addr} {u : Value} {o : Obj} {n : String} {vs : Array Value} {Q : Unit → Shared → Prop} (ho : s.heap.get? it = some o) (hc : o.cls = .type n) (hd : o.data = .fields vs)
    (hn : ["enumerate", "zip", "dict_itemiterator", "dict_reverseitemiterator", "odict_iterator", "itertools.zip_longest", "itertools.pairwise"].contains n = false) (hQ : Q () s) : wpAny M A (letOwnedTupleGo tg (.ref it) u) Q E s := by
  unfold letOwnedTupleGo
  cases tg <;> first
    | exact wpAny_pure hQ
    | (cases u <;> first
        | exact wpAny_pure hQ
        | (refine wpAny_bind (wpAny_load ho ?_)
           rw [hc, hd]
           show wpAny M A (if (["enumerate", "zip", "dict_itemiterator", "dict_reverseitemiterator", "odict_iterator", "itertools.zip_longest", "itertools.pairwise"].contains n && vs[0]? == some (rawInt _)) = true then _ else _) Q E s
           rw [if_neg (by intro h; rw [hn, Bool.false_and] at h; cases h)]
           exact wpAny_pure hQ))

def Itl (K : PySem.W.Frag) (a : Addr) : It :=
  ⟨fun i H => ∃ xs x, SqL K H a xs ∧ xs[i]? = some x, fun i H x H' => H' = H ∧ ∀ xs, SqL K H a xs → xs[i]? = some x, fun i H => ∃ xs, SqL K H a xs ∧ xs.length ≤ i⟩
def Itr (lo : Int) (n : Nat) : It := ⟨fun i _ => i < n, fun i H x H' => H' = H ∧ x = .int (lo + i), fun i _ => n ≤ i⟩
theorem turn_list {P : Program} {w : World} {K : PySem.W.Frag} {tg : Expr} (a it : Addr) : Turn P w K tg (Itl K a) [it] it (fun i h => h.IsListIter it a i) where
  mem := by simp
  obj := fun i h st b hb => by
    have e : b = it := by simpa using hb
    subst e
    obtain ⟨o, e, c, d⟩ := st
    exact ⟨o, e, fun v z => by rw [d] at z; cases z⟩
  keep := fun i h h' st k => st.at fun o e => k it (by simp) o e
  item := by
    intro X hP hw hK hc i pins s σ H E I hf st hg
    subst hP hw hK
    obtain ⟨xs, x, hq, hx⟩ := hg
    obtain ⟨its, rv, p, hz⟩ := I.list hq
    obtain ⟨u, hu, ru⟩ := rv.get hx
    obtain ⟨f0, f1, f2, f3, f4, f5⟩ := hf it (by simp)
    refine wpAny_pyNext_list_item st p.isList (x := u) (by simpa using hu) fun h' st' sb => ?_
    have I1 : Inv X pins σ H { s with heap := h' } := I.turned (t' := s.toks) (fun b o hb e => (sb.2 b hb).trans e) f0 f1 f3 f4 f5
    obtain ⟨o, e, c, d⟩ := id st'
    exact ⟨u, rfl, go_of (s := { s with heap := h' }) e c d (by decide) ⟨x, H, I1, ru, ⟨rfl, fun ys hy => by rw [I.list_inj hy hq]; exact hx⟩, st', fun b hb => (hf b hb).1⟩⟩
  done := by
    intro X hP hw hK hc i pins s σ H E I hf st hg
    subst hP hw hK
    obtain ⟨xs, hq, hx⟩ := hg
    obtain ⟨its, rv, p, hz⟩ := I.list hq
    obtain ⟨f0, f1, f2, f3, f4, f5⟩ := hf it (by simp)
    have hl := rv.length
    exact wpAny_pyNext_list_end (I.ok.hd hc) st p.isList (by simp; omega) fun h' eb => ⟨rfl, I.turned (t' := s.toks) (fun b o hb e => eb b o hb e) f0 f1 f3 f4 f5⟩
  self := fun _ _ _ _ _ st h => wpAny_pyIter_listiter st h
theorem turn_range {P : Program} {w : World} {K : PySem.W.Frag} {tg : Expr} (it : Addr) (lo : Int) (n : Nat) : Turn P w K tg (Itr lo n) [it] it (fun i h => IsRangeIter h it (lo + (i : Nat) * 1) ((n : Int) - (i : Nat)) 1) where
  mem := by simp
  obj := fun i h st b hb => by
    have e : b = it := by simpa using hb
    subst e
    exact ⟨_, st, fun v z => by
      have z' : Data.fields _ = Data.cell v := z
      cases z'⟩
  keep := fun i h h' st k => k it (by simp) _ st
  item := by
    intro X hP hw hK hc i pins s σ H E I hf st hg
    subst hP hw hK
    obtain ⟨f0, f1, f2, f3, f4, f5⟩ := hf it (by simp)
    have W := Walks.range (prog := X.prog) (w := X.w) (I.ok.hd hc) it lo 1 n
    refine W.item i s _ _ hg st fun v h' tk hv st' kk => ?_
    obtain ⟨t, rfl⟩ := hv
    have I1 : Inv X pins σ H { s with heap := h', toks := tk } := I.turned (fun b o hb e => kk b o (by simpa using hb) e) f0 f1 f3 f4 f5
    refine ⟨_, rfl, go_of (s := { s with heap := h', toks := tk }) (n := "range_iterator") st' rfl rfl (by decide) ⟨.int (lo + i), H, I1, ⟨t, ?_⟩, ⟨rfl, rfl⟩, st', fun b hb => (hf b hb).1⟩⟩
    rw [Int.mul_one]
  done := by
    intro X hP hw hK hc i pins s σ H E I hf st hg
    subst hP hw hK
    obtain ⟨f0, f1, f2, f3, f4, f5⟩ := hf it (by simp)
    exact wpAny_pyNext_range_end (I.ok.hd hc) st (by have : n ≤ i := hg; omega) fun h' eb => ⟨rfl, I.turned (t' := s.toks) (fun b o hb e => eb b o hb e) f0 f1 f3 f4 f5⟩
  self := fun _ _ _ _ _ st h => wpAny_pyIter_rangeiter st h
end L2

namespace L2
open PySem PySem.Spec PyProof.Rows
section
variable {X : Cx} {tg : Expr}
def iList (K : PySem.W.Frag) (tl : TE) : TI := fun σ H R => tl σ H fun x H1 => ∃ a, x = .ref a ∧ (∃ xs, SqL K H1 a xs) ∧ R (Itl K a) H1
theorem pi_list {l : Expr} {tl : TE} (hl : PE X l tl) : PI X tg l (iList X.K tl) := by
  intro pins s σ H R I h
  refine thn (hl pins s σ H _ I h) fun v s1 zq => zq.elim fun x H1 I1 r1 q1 => ?_
  obtain ⟨a, e, ⟨xs, hq⟩, q⟩ := q1
  subst e
  cases r1
  obtain ⟨its, rv, p, hz⟩ := I1.list hq
  refine wpAny_pyIter_list p.isList ?_
  refine ⟨s1.heap.objs.size, [s1.heap.objs.size], _, _, H1, rfl, I1.kept (t' := s1.toks) fun b o e => Heap.get?_push_of_some _ e, turn_list a _, ⟨_, Heap.get?_push_size _ rfl, rfl, rfl⟩, fun b hb => ?_, q⟩
  have e : b = s1.heap.objs.size := by simpa using hb
  subst e
  exact I1.fpOk (Nat.le_refl _) (I1.hok.fresh (Nat.le_refl _))
theorem range_it {pins : List (Addr × Obj)} {σ : St} {H : Hp} {s : Shared} {R : It → Hp → Prop} {E : Value → Shared → Prop} {lo hi : Int} {t u v : Tok} {tk : Nat} (I : Inv X pins σ H s) (h1 : -(2 ^ 62) ≤ lo) (h2 : lo < 2 ^ 62) (h3 : -(2 ^ 62) ≤ hi) (h4 : hi < 2 ^ 62)
    (q : R (Itr lo (hi - lo).toNat) H) : wpAny (model X.prog X.w) X.A (pyIter (.ref s.heap.objs.size)) (PIE X pins σ tg R) E { s with heap := s.heap.push { cls := .type "range", data := .fields #[.int lo t, .int hi u, .int 1 v] }, toks := tk } := by
  refine wpAny_pyIter_range (IsRange.new ..) (small_one h1 h2 h3 h4) ?_
  have I1 : Inv X pins σ H { s with heap := s.heap.push { cls := .type "range", data := .fields #[.int lo t, .int hi u, .int 1 v] }, toks := tk } := I.kept fun b o e => Heap.get?_push_of_some _ e
  refine ⟨(s.heap.push { cls := .type "range", data := .fields #[.int lo t, .int hi u, .int 1 v] }).objs.size, [(s.heap.push { cls := .type "range", data := .fields #[.int lo t, .int hi u, .int 1 v] }).objs.size], _, _, H, rfl,
    I1.kept (t' := tk) fun b o e => Heap.get?_push_of_some _ e, turn_range _ lo (hi - lo).toNat, ?_, fun b hb => ?_, q⟩
  · have e1 : lo + ((0 : Nat) : Int) * 1 = lo := by simp
    have e2 : (((hi - lo).toNat : Nat) : Int) - ((0 : Nat) : Int) = Builtin.Range.rangeSize lo hi 1 := by rw [rangeSize_one]; split <;> omega
    show IsRangeIter _ _ (lo + ((0 : Nat) : Int) * 1) ((((hi - lo).toNat : Nat) : Int) - ((0 : Nat) : Int)) 1
    rw [e1, e2]
    exact Heap.get?_push_size _ rfl
  · have e : b = (s.heap.push { cls := .type "range", data := .fields #[.int lo t, .int hi u, .int 1 v] }).objs.size := by simpa using hb
    subst e
    exact I1.fpOk (Nat.le_refl _) (I1.hok.fresh (Nat.le_refl _))
def iRng1 (ta : TA) : TI := fun σ H R => ta σ H fun vs H1 => ∃ j : Int, vs = [.int j] ∧ -(2 ^ 62) ≤ j ∧ j < 2 ^ 62 ∧ R (Itr 0 j.toNat) H1
def iRng2 (ta : TA) : TI := fun σ H R => ta σ H fun vs H1 => ∃ i j : Int, vs = [.int i, .int j] ∧ (-(2 ^ 62) ≤ i ∧ i < 2 ^ 62 ∧ -(2 ^ 62) ≤ j ∧ j < 2 ^ 62) ∧ R (Itr i (j - i).toNat) H1
theorem pi_range1 {a : Expr} {ta : TA} {p pos : Pos} (hg : Gl X "range") (hm : X.mg "range" = none) (ha : PA X [a] ta) (hs : starEach [a] X.env = [(false, eval a X.env)] := by rfl) : PI X tg (.Call (.Name "range" p) [a] [] pos) (iRng1 ta) := by
  intro pins s σ H R I h
  refine Call_ (ld_blt I hg hm boot_range (PyProof.Rows.callWith_type1 (thn (ha pos pins s σ H _ I h) fun us s1 zq => zq.elim fun vs H1 I1 r1 q1 => ?_) hs rfl))
  obtain ⟨j, e, q1, q2, q⟩ := q1
  subst e
  cases r1 with
  | cons r rr =>
    cases rr
    obtain ⟨t, rfl⟩ := r
    exact call_range_1 (range_it I1 (by omega) (by omega) q1 q2 (by simpa using q))
theorem pi_range2 {a b : Expr} {ta : TA} {p pos : Pos} (hg : Gl X "range") (hm : X.mg "range" = none) (ha : PA X [a, b] ta) (hs : starEach [a, b] X.env = [(false, eval a X.env), (false, eval b X.env)] := by rfl) (hs2 : starEach [b] X.env = [(false, eval b X.env)] := by rfl) :
    PI X tg (.Call (.Name "range" p) [a, b] [] pos) (iRng2 ta) := by
  intro pins s σ H R I h
  refine Call_ (ld_blt I hg hm boot_range (PyProof.Rows.callWith_type1 (thn (ha pos pins s σ H _ I h) fun us s1 zq => zq.elim fun vs H1 I1 r1 q1 => ?_) (by rw [hs, hs2]) (by rw [hs2]; rfl)))
  obtain ⟨i, j, e, ⟨q1, q2, q3, q4⟩, q⟩ := q1
  subst e
  cases r1 with
  | cons r rr =>
    cases rr with
    | cons r' rr =>
      cases rr
      obtain ⟨t, rfl⟩ := r
      obtain ⟨t', rfl⟩ := r'
      exact call_range_2 (range_it I1 q1 q2 q3 q4 q)

def tFor (wi : TI) (g : TG) (tb : TS) : TS := fun D σ H => wi σ H fun J H1 => ∃ W : Nat → Nat → St → Hp → Prop, (∃ m, W 0 m σ H1) ∧ ∀ i m σ H, W i m σ H →
  (J.stop i H ∧ D.nx σ H) ∨ (J.go i H ∧ ∃ N : St → Hp → Prop, (∀ σ' H', N σ' H' → ∃ m', m' < m ∧ W (i + 1) m' σ' H') ∧ ∀ x H', J.yld i H x H' → g x σ H' fun σ2 H2 => tb { D with nx := N, ct := N, bk := D.nx } σ2 H2)
def pinsAt (fp : List Addr) (h : Heap) : List (Addr × Obj) := fp.filterMap fun b => (h.get? b).map fun o => (b, o)
theorem mem_pinsAt {fp : List Addr} {h : Heap} {b : Addr} {o : Obj} (hb : b ∈ fp) (e : h.get? b = some o) : (b, o) ∈ pinsAt fp h := List.mem_filterMap.mpr ⟨b, hb, by rw [e]; rfl⟩
theorem of_pinsAt {fp : List Addr} {h : Heap} {p : Addr × Obj} (hp : p ∈ pinsAt fp h) : p.1 ∈ fp ∧ h.get? p.1 = some p.2 := by
  obtain ⟨b, hb, e⟩ := List.mem_filterMap.mp hp
  cases q : h.get? b with
  | none => rw [q] at e; cases e
  | some o =>
    rw [q] at e
    have e' : (b, o) = p := Option.some.inj e
    subst e'
    exact ⟨hb, q⟩
theorem Inv.pinned {pins : List (Addr × Obj)} {σ : St} {H : Hp} {s : Shared} {fp : List Addr} (I : Inv X pins σ H s) (hf : ∀ b ∈ fp, FpOk X pins H b) (ho : ∀ b ∈ fp, ∃ o, s.heap.get? b = some o ∧ ∀ v, o.data ≠ .cell v) : Inv X (pins ++ pinsAt fp s.heap) σ H s :=
  I.pins_of fun p hp => (List.mem_append.mp hp).elim (fun z => I.pin p (List.mem_append_right _ z)) fun z => by
    obtain ⟨hb, e⟩ := of_pinsAt z
    obtain ⟨f0, f1, f2, _⟩ := hf p.1 hb
    obtain ⟨o, e', d⟩ := ho p.1 hb
    rw [e] at e'; cases e'
    exact ⟨e, f0, f1, f2, d⟩
theorem Inv.unpinned {pins pl : List (Addr × Obj)} {σ : St} {H : Hp} {s : Shared} (I : Inv X (pins ++ pl) σ H s) : Inv X pins σ H s := I.pins_of fun p hp => I.pin p (List.mem_append_right _ (List.mem_append_left _ hp))
theorem ps_for {iter : Expr} {body : List Stmt} {wi : TI} {g : TG} {tb : TS} {pos : Pos} (hp : PassesOwn (model X.prog X.w) X.A X.env X.xe) (hc : X.calm = true) (hi : PI X tg iter wi) (hg : PG X tg g) (hb : PSs X body tb)
    (hs : ∀ x, foldedSetIterable iter X.env x = pure x := by intro _; rfl) : PS X (.For tg iter body [] pos) (tFor wi g tb) := by
  intro pins s σ H D I h
  refine wpAny_For (thn (hi pins s σ H _ I h) fun v s1 h1 => thn h1 fun itv s2 h2 => ?_) hs
  obtain ⟨it, fp, tn, J, H2, e, I2, T, st2, f2, W, ⟨m0, w0⟩, turn⟩ := h2
  subst e
  have stat : ∀ {H' : Hp}, (∀ b ∈ fp, H' b = none) → ∀ b ∈ fp, FpOk X pins H' b := fun hn b hb => ⟨hn b hb, (f2 b hb).2⟩
  refine codeAny_forLoop_any (fun n s' => ∃ i σ' H', Inv X pins σ' H' s' ∧ tn i s'.heap ∧ (∀ b ∈ fp, H' b = none) ∧ W i n σ' H') ?_ m0 ⟨0, σ, H2, I2, st2, fun b hb => (f2 b hb).1, w0⟩
  rintro n s3 ⟨i, σ3, H3, I3, st3, fr3, w3⟩
  rcases turn i n σ3 H3 w3 with ⟨stop, qn⟩ | ⟨go, N, hN, step⟩
  · refine wpAny_passesOwn hp (thn (T.done X rfl rfl rfl hc i pins s3 σ3 H3 X.xe I3 (stat fr3) st3 stop) fun r s4 ⟨hr, I4⟩ => ?_)
    subst hr
    exact wpAny_execs_nil ⟨σ3, H3, I4, qn⟩
  · refine wpAny_passesOwn hp (thn (T.item X rfl rfl rfl hc i pins s3 σ3 H3 X.xe I3 (stat fr3) st3 go) fun r s4 ⟨u, hr, h4⟩ => ?_)
    subst hr
    refine wpAny_passesOwn hp (thn h4 fun _ s5 ⟨x, H5, I5, r5, y5, st5, fr5⟩ => ?_)
    have I5' := I5.pinned (stat fr5) (T.obj _ _ st5)
    refine wpAny_passesOwn hp (thn (hg _ s5 σ3 H5 x u _ I5' r5 (step x H5 y5)) fun _ s6 ⟨σ6, H6, I6, q6⟩ => ?_)
    refine wpAny_passesOwn hp (thn (hb _ s6 σ6 H6 _ I6 q6) fun f s7 q7 => ?_)
    have again : ∀ {σ7 : St} {H7 : Hp}, Inv X (pins ++ pinsAt fp s5.heap) σ7 H7 s7 → N σ7 H7 → ∃ m, m < n ∧ ∃ i σ' H', Inv X pins σ' H' s7 ∧ tn i s7.heap ∧ (∀ b ∈ fp, H' b = none) ∧ W i m σ' H' := fun {σ7 H7} I7 n7 => by
      obtain ⟨m', hm, w7⟩ := hN σ7 H7 n7
      refine ⟨m', hm, i + 1, σ7, H7, I7.unpinned, T.keep _ _ _ st5 fun b hb o e => (I7.pin (b, o) (List.mem_append_right _ (List.mem_append_right _ (mem_pinsAt hb e)))).1, fun b hb => ?_, w7⟩
      obtain ⟨o, e, d⟩ := T.obj _ _ st5 b hb
      exact (I7.pin (b, o) (List.mem_append_right _ (List.mem_append_right _ (mem_pinsAt hb e)))).2.1
    cases f with
    | next => obtain ⟨σ7, H7, I7, n7⟩ := q7; exact again I7 n7
    | cont => obtain ⟨σ7, H7, I7, n7⟩ := q7; exact again I7 n7
    | brk => obtain ⟨σ7, H7, I7, q7⟩ := q7; exact ⟨σ7, H7, I7.unpinned, q7⟩
    | ret v => obtain ⟨x7, σ7, H7, I7, r7, q7⟩ := q7; exact ⟨x7, σ7, H7, I7.unpinned, r7, q7⟩
end

theorem for_list {K : PySem.W.Frag} {a : Addr} {xs : List V} {g : TG} {tb : TS} {D : Ends} {σ : St} {H : Hp} (Pv : Nat → St → Hp → Prop) (h0 : Pv 0 σ H) (hl : ∀ i σ H, i ≤ xs.length → Pv i σ H → SqL K H a xs)
    (hs : ∀ i x σ H, xs[i]? = some x → Pv i σ H → g x σ H fun σ2 H2 => tb { D with nx := Pv (i + 1), ct := Pv (i + 1), bk := D.nx } σ2 H2) (hd : ∀ σ H, Pv xs.length σ H → D.nx σ H) :
    ∃ W : Nat → Nat → St → Hp → Prop, (∃ m, W 0 m σ H) ∧ ∀ i m σ H, W i m σ H →
      ((Itl K a).stop i H ∧ D.nx σ H) ∨ ((Itl K a).go i H ∧ ∃ N : St → Hp → Prop, (∀ σ' H', N σ' H' → ∃ m', m' < m ∧ W (i + 1) m' σ' H') ∧ ∀ x H', (Itl K a).yld i H x H' → g x σ H' fun σ2 H2 => tb { D with nx := N, ct := N, bk := D.nx } σ2 H2) := by
  refine ⟨fun i m σ H => m = xs.length - i ∧ i ≤ xs.length ∧ Pv i σ H, ⟨xs.length, by simp, Nat.zero_le _, h0⟩, ?_⟩
  rintro i m σ H ⟨rfl, hi, p⟩
  have q := hl i σ H hi p
  by_cases hlt : i < xs.length
  · refine .inr ⟨⟨xs, xs[i], q, by simp [hlt]⟩, Pv (i + 1), fun σ' H' p' => ⟨xs.length - (i + 1), by omega, rfl, hlt, p'⟩, fun x H' y => ?_⟩
    obtain ⟨e, y⟩ := y
    subst e
    exact hs i x σ _ (y xs q) p
  · have e : i = xs.length := by omega
    subst e
    exact .inl ⟨⟨xs, q, Nat.le_refl _⟩, hd σ H p⟩
theorem for_range {lo : Int} {n : Nat} {g : TG} {tb : TS} {D : Ends} {σ : St} {H : Hp} (Pv : Nat → St → Hp → Prop) (h0 : Pv 0 σ H)
    (hs : ∀ i σ H, i < n → Pv i σ H → g (.int (lo + i)) σ H fun σ2 H2 => tb { D with nx := Pv (i + 1), ct := Pv (i + 1), bk := D.nx } σ2 H2) (hd : ∀ σ H, Pv n σ H → D.nx σ H) :
    ∃ W : Nat → Nat → St → Hp → Prop, (∃ m, W 0 m σ H) ∧ ∀ i m σ H, W i m σ H →
      ((Itr lo n).stop i H ∧ D.nx σ H) ∨ ((Itr lo n).go i H ∧ ∃ N : St → Hp → Prop, (∀ σ' H', N σ' H' → ∃ m', m' < m ∧ W (i + 1) m' σ' H') ∧ ∀ x H', (Itr lo n).yld i H x H' → g x σ H' fun σ2 H2 => tb { D with nx := N, ct := N, bk := D.nx } σ2 H2) := by
  refine ⟨fun i m σ H => m = n - i ∧ i ≤ n ∧ Pv i σ H, ⟨n, by simp, Nat.zero_le _, h0⟩, ?_⟩
  rintro i m σ H ⟨rfl, hi, p⟩
  by_cases hlt : i < n
  · refine .inr ⟨hlt, Pv (i + 1), fun σ' H' p' => ⟨n - (i + 1), by omega, rfl, hlt, p'⟩, fun x H' y => ?_⟩
    obtain ⟨e, y⟩ := y
    subst e y
    exact hs i σ _ hlt p
  · have e : i = n := by omega
    subst e
    exact .inl ⟨Nat.le_refl _, hd σ H p⟩
end L2

namespace L2
open PySem PySem.Spec PyProof.Rows

abbrev R2 := V → V → Hp → VK → Prop
def OpR (X : Cx) (f : Value → Value → Sem Value) (r : R2) : Prop :=
  ∀ (pins : List (Addr × Obj)) (s : Shared) (σ : St) (H : Hp) (x y : V) (v u : Value) (Q : VK), Inv X pins σ H s → RelV x v → RelV y u → r x y H Q →
    wpAny (model X.prog X.w) X.A (f v u) (EP X pins σ Q) X.xe s
def UnR (X : Cx) (f : Value → Sem Value) (r : V → Hp → VK → Prop) : Prop :=
  ∀ (pins : List (Addr × Obj)) (s : Shared) (σ : St) (H : Hp) (x : V) (v : Value) (Q : VK), Inv X pins σ H s → RelV x v → r x H Q →
    wpAny (model X.prog X.w) X.A (f v) (EP X pins σ Q) X.xe s
def CallR (X : Cx) (f : Value) (r : List V → Hp → VK → Prop) : Prop :=
  ∀ (pins : List (Addr × Obj)) (s : Shared) (σ : St) (H : Hp) (xs : List V) (us : List Value) (Q : VK), Inv X pins σ H s → Vals xs us → r xs H Q →
    wpAny (model X.prog X.w) X.A (call f us) (EP X pins σ Q) X.xe s
def TruR (X : Cx) (r : V → Hp → (Bool → Hp → Prop) → Prop) : Prop :=
  ∀ (pins : List (Addr × Obj)) (s : Shared) (σ : St) (H : Hp) (x : V) (v : Value) (Q : Bool → Hp → Prop), Inv X pins σ H s → RelV x v → r x H Q →
    wpAny (model X.prog X.w) X.A (truthy v) (TP X pins σ Q) X.xe s

def tOp (r : R2) (ta tb : TE) : TE := fun σ H Q => ta σ H fun x H1 => tb σ H1 fun y H2 => r x y H2 Q
def tUn (r : V → Hp → VK → Prop) (ta : TE) : TE := fun σ H Q => ta σ H fun x H1 => r x H1 Q
inductive rII (C : Int → Int → Prop) (g : Int → Int → V) (x : V) (y : V) (H : Hp) (Q : VK) : Prop
  | mk (i : _) (j : _) (x0 : x = .int i) (x1 : y = .int j) (x2 : C i j) (x3 : Q (g i j) H) : rII C g x y H Q
def rI (C : Int → Int → Prop) (g : Int → Int → V) : R2 := fun x y H Q => rII C g x y H Q
inductive rI0I (g : Int → Int → V) (x : V) (y : V) (H : Hp) (Q : VK) : Prop
  | mk (i : _) (j : _) (x0 : x = .int i) (x1 : y = .int j) (x2 : Q (g i j) H) : rI0I g x y H Q
def rI0 (g : Int → Int → V) : R2 := fun x y H Q => rI0I g x y H Q
inductive rUI (g : Int → V) (x : V) (H : Hp) (Q : VK) : Prop
  | mk (i : _) (x0 : x = .int i) (x1 : Q (g i) H) : rUI g x H Q
def rU (g : Int → V) : V → Hp → VK → Prop := fun x H Q => rUI g x H Q

section
variable {X : Cx} {a b c : Expr} {ta tb tc : TE} {pos : Pos}

theorem binT (ha : PE X a ta) (hb : PE X b tb) {pins : List (Addr × Obj)} {s : Shared} {σ : St} {H : Hp} {R : V → V → Hp → Prop} (I : Inv X pins σ H s)
    (h : ta σ H fun x H1 => tb σ H1 fun y H2 => R x y H2) {Q : Value → Shared → Prop} {f : Value → Value → Sem Value}
    (hf : ∀ v u s2 x y H2, Inv X pins σ H2 s2 → RelV x v → RelV y u → R x y H2 → wpAny (model X.prog X.w) X.A (f v u) Q X.xe s2) :
    wpAny (model X.prog X.w) X.A (eval a X.env) (fun v s₁ => wpAny (model X.prog X.w) X.A (eval b X.env) (fun u s₂ => wpAny (model X.prog X.w) X.A (f v u) Q X.xe s₂) X.xe s₁) X.xe s := by
  refine thn (ha pins s σ H _ I h) fun v s1 zq => zq.elim fun x H1 I1 r1 q1 => ?_
  refine thn (hb pins s1 σ H1 _ I1 q1) fun u s2 zq => zq.elim fun y H2 I2 r2 q2 => ?_
  exact hf v u s2 x y H2 I2 r1 r2 q2

theorem pe_op {op : Operator} {r : R2} (ho : OpR X (binaryOp op) r) (ha : PE X a ta) (hb : PE X b tb) : PE X (.BinOp a op b pos) (tOp r ta tb) := by
  intro pins s σ H Q I h
  exact wpAny_BinOp (binT ha hb I h fun v u s2 x y H2 I2 rx ry q => ho pins s2 σ H2 x y v u Q I2 rx ry q)
theorem pe_un {op : UnaryOp} {r : V → Hp → VK → Prop} (ho : UnR X (unaryOp op) r) (ha : PE X a ta) : PE X (.UnaryOp op a pos) (tUn r ta) := by
  intro pins s σ H Q I h
  exact UnaryOp_ (thn (ha pins s σ H _ I h) fun v s1 zq => zq.elim fun x H1 I1 r1 q1 => ho pins s1 σ H1 x v Q I1 r1 q1)
theorem opI {f : Value → Value → Sem Value} {C : Int → Int → Prop} {g : Int → Int → Int}
    (rule : ∀ (i j : Int) (t u : Tok) (s : Shared) (Q : Value → Shared → Prop) (E : Value → Shared → Prop), C i j → Q (.int (g i j) s.toks) { s with toks := s.toks + 1 } → wpAny (model X.prog X.w) X.A (f (.int i t) (.int j u)) Q E s) :
    OpR X f (rI C fun i j => .int (g i j)) := by
  intro pins s σ H x y v u Q I rx ry h
  obtain ⟨i, j, rfl, rfl, hc, q⟩ := h
  obtain ⟨t, rfl⟩ := rx
  obtain ⟨t', rfl⟩ := ry
  exact rule i j t t' s _ _ hc ⟨.int (g i j), H, I.tok _, ⟨_, rfl⟩, q⟩
theorem opI0 {f : Value → Value → Sem Value} {g : Int → Int → Int}
    (rule : ∀ (i j : Int) (t u : Tok) (s : Shared) (Q : Value → Shared → Prop) (E : Value → Shared → Prop), Q (.int (g i j) s.toks) { s with toks := s.toks + 1 } → wpAny (model X.prog X.w) X.A (f (.int i t) (.int j u)) Q E s) :
    OpR X f (rI0 fun i j => .int (g i j)) := by
  intro pins s σ H x y v u Q I rx ry h
  obtain ⟨i, j, rfl, rfl, q⟩ := h
  obtain ⟨t, rfl⟩ := rx
  obtain ⟨t', rfl⟩ := ry
  exact rule i j t t' s _ _ ⟨.int (g i j), H, I.tok _, ⟨_, rfl⟩, q⟩
theorem opB0 {f : Value → Value → Sem Value} {g : Int → Int → Bool}
    (rule : ∀ (i j : Int) (t u : Tok) (s : Shared) (Q : Value → Shared → Prop) (E : Value → Shared → Prop), Q (.bool (g i j)) s → wpAny (model X.prog X.w) X.A (f (.int i t) (.int j u)) Q E s) :
    OpR X f (rI0 fun i j => .bl (g i j)) := by
  intro pins s σ H x y v u Q I rx ry h
  obtain ⟨i, j, rfl, rfl, q⟩ := h
  obtain ⟨t, rfl⟩ := rx
  obtain ⟨t', rfl⟩ := ry
  exact rule i j t t' s _ _ ⟨.bl (g i j), H, I, rfl, q⟩

def CDiv (i j : Int) : Prop := 0 < j ∧ j < 1073741824
def CPow (i j : Int) : Prop := 0 ≤ j ∧ j ≤ 1000000 ∧ i.natAbs < 2 ^ 64
def CMul (i j : Int) : Prop := (-(2 ^ 64) < i ∧ i < 2 ^ 64) ∨ (-(2 ^ 64) < j ∧ j < 2 ^ 64)
theorem CMul.ok {i j : Int} (h : CMul i j) : IntMulOk i j := by
  rcases h with ⟨h1, h2⟩ | ⟨h1, h2⟩
  · exact .of_left (intBits_le_64 h1 h2)
  · exact .of_right (intBits_le_64 h1 h2)
theorem op_add : OpR X (binaryOp .Add) (rI0 fun i j => .int (i + j)) := opI0 fun _ _ _ _ _ _ _ q => add_int q
theorem op_sub : OpR X (binaryOp .Sub) (rI0 fun i j => .int (i - j)) := opI0 fun _ _ _ _ _ _ _ q => sub_int q
theorem op_mul : OpR X (binaryOp .Mult) (rI CMul fun i j => .int (i * j)) := opI fun _ _ _ _ _ _ _ hc q => mul_int q hc.ok
theorem op_fdiv : OpR X (binaryOp .FloorDiv) (rI CDiv fun i j => .int (i / j)) := opI fun i j _ _ _ _ _ hc q => by
  have h1 : (0 : Int) < j := hc.1
  have h2 : j < 1073741824 := hc.2
  exact floordiv_int (by omega) (by rw [Int.fdiv_eq_ediv_of_nonneg i (by omega)]; exact q) (.inl (PyProof.noPylong_small (by omega)))
theorem op_mod : OpR X (binaryOp .Mod) (rI (fun _ j => 0 < j) fun i j => .int (i % j)) := opI fun i j _ _ _ _ _ hc q => by
  have h1 : (0 : Int) < j := hc
  exact mod_int' (by omega) (by rw [Int.fmod_eq_emod_of_nonneg i (by omega)]; exact q)
theorem op_pow : OpR X (binaryOp .Pow) (rI CPow fun i j => .int (i ^ j.toNat)) := opI fun _ _ _ _ _ _ _ hc q => pow_int_small hc.1 hc.2.1 hc.2.2 q
theorem unI {f : Value → Sem Value} {g : Int → Int}
    (rule : ∀ (i : Int) (t : Tok) (s : Shared) (Q : Value → Shared → Prop) (E : Value → Shared → Prop), Q (.int (g i) s.toks) { s with toks := s.toks + 1 } → wpAny (model X.prog X.w) X.A (f (.int i t)) Q E s) :
    UnR X f (rU fun i => .int (g i)) := by
  intro pins s σ H x v Q I rx h
  obtain ⟨i, rfl, q⟩ := h
  obtain ⟨t, rfl⟩ := rx
  exact rule i t s _ _ ⟨.int (g i), H, I.tok _, ⟨_, rfl⟩, q⟩
theorem un_neg : UnR X (unaryOp .USub) (rU fun i => .int (-i)) := unI fun _ _ _ _ _ q => neg_int q
inductive r_op_add_ibI (x : V) (y : V) (H : Hp) (Q : VK) : Prop
  | mk (i : _) (k : _) (h0_ : x = .int i) (h1_ : y = .bl k) (h2_ : Q (.int (i + b2i k)) H) : r_op_add_ibI x y H Q
end

def scal : V → V → Bool
  | .non, .non => true | .non, .int _ => true | .int _, .non => true | .non, .bl _ => true | .bl _, .non => true | .non, .str _ => true | .str _, .non => true
  | .int _, .int _ => true | .bl _, .bl _ => true | .str _, .str _ => true | .byt _, .byt _ => true
  | .int _, .str _ => true | .str _, .int _ => true | .bl _, .str _ => true | .str _, .bl _ => true
  | _, _ => false
def rEq : R2 := fun x y H Q => scal x y = true ∧ Q (.bl (decide (x = y))) H
theorem dec_int {i j : Int} : decide (V.int i = V.int j) = (i == j) := by
  rw [Bool.eq_iff_iff]
  simp
theorem dec_bl {i j : Bool} : decide (V.bl i = V.bl j) = (i == j) := by
  rw [Bool.eq_iff_iff]
  simp
theorem dec_str {i j : Str} : decide (V.str i = V.str j) = (i == j) := by
  rw [Bool.eq_iff_iff]
  simp
theorem dec_byt {i j : Array UInt8} : decide (V.byt i = V.byt j) = (i.toList == j.toList) := by
  rw [Bool.eq_iff_iff]
  cases i
  cases j
  simp

section
variable {X : Cx} {a b c : Expr} {ta tb tc : TE} {pos : Pos}
theorem fin_bl {pins : List (Addr × Obj)} {σ : St} {H : Hp} {s : Shared} {Q : VK} {k k' : Bool} (I : Inv X pins σ H s) (q : Q (.bl k) H) (e : k = k') : EP X pins σ Q (.bool k') s := by
  subst e
  exact ⟨.bl k, H, I, rfl, q⟩
theorem op_eq : OpR X (compareOp .Eq) rEq := by
  intro pins s σ H x y v u Q I rx ry h
  obtain ⟨hs, q⟩ := h
  cases x with
  | non =>
    cases rx
    cases y with
    | non => cases ry; exact PySem.EqNone.eq_none_none (fin_bl I q (by simp))
    | bl j => cases ry; exact PySem.EqNone.eq_none_bool (fin_bl I q (by simp))
    | int j => obtain ⟨t', rfl⟩ := ry; exact PySem.EqNone.eq_none_int (fin_bl I q (by simp))
    | str j => obtain ⟨t', rfl⟩ := ry; exact PySem.EqNone.eq_none_str (fin_bl I q (by simp))
    | _ => exact absurd (show false = true from hs) Bool.false_ne_true
  | bl i =>
    cases rx
    cases y with
    | non => cases ry; exact PySem.EqNone.eq_bool_none (fin_bl I q (by simp))
    | bl j => cases ry; exact eq_bool (fin_bl I q dec_bl)
    | str j => obtain ⟨t', rfl⟩ := ry; exact PySem.EqMixed.eq_bool_str (fin_bl I q (by simp))
    | _ => exact absurd (show false = true from hs) Bool.false_ne_true
  | int i =>
    obtain ⟨t, rfl⟩ := rx
    cases y with
    | non => cases ry; exact PySem.EqNone.eq_int_none (fin_bl I q (by simp))
    | int j => obtain ⟨t', rfl⟩ := ry; exact eq_int (fin_bl I q dec_int)
    | str j => obtain ⟨t', rfl⟩ := ry; exact PySem.EqMixed.eq_int_str (fin_bl I q (by simp))
    | _ => exact absurd (show false = true from hs) Bool.false_ne_true
  | str i =>
    obtain ⟨t, rfl⟩ := rx
    cases y with
    | non => cases ry; exact PySem.EqNone.eq_str_none (fin_bl I q (by simp))
    | bl j => cases ry; exact PySem.EqMixed.eq_str_bool (fin_bl I q (by simp))
    | int j => obtain ⟨t', rfl⟩ := ry; exact PySem.EqMixed.eq_str_int (fin_bl I q (by simp))
    | str j => obtain ⟨t', rfl⟩ := ry; exact eq_str (fin_bl I q dec_str)
    | _ => exact absurd (show false = true from hs) Bool.false_ne_true
  | byt i =>
    obtain ⟨t, rfl⟩ := rx
    cases y with
    | byt j => obtain ⟨t', rfl⟩ := ry; exact PySem.W.eq_bytes (fin_bl I q dec_byt)
    | _ => exact absurd (show false = true from hs) Bool.false_ne_true
  | _ => cases y <;> exact absurd (show false = true from hs) Bool.false_ne_true
theorem op_lt : OpR X (compareOp .Lt) (rI0 fun i j => .bl (decide (i < j))) := opB0 fun _ _ _ _ _ _ _ q => lt_int q
inductive r_op_leI (x : V) (y : V) (H : Hp) (Q : VK) : Prop
  | mk (i : _) (j : _) (h0_ : x = .str i) (h1_ : y = .str j) (h2_ : Q (.bl (decide (i.cps.toList < j.cps.toList))) H) : r_op_leI x y H Q
theorem op_le : OpR X (compareOp .LtE) (rI0 fun i j => .bl (decide (i ≤ j))) := opB0 fun _ _ _ _ _ _ _ q => le_int q
theorem op_ge : OpR X (compareOp .GtE) (rI0 fun i j => .bl (decide (j ≤ i))) := opB0 fun _ _ _ _ _ _ _ q => ge_int q
inductive r_op_in_strI (x : V) (y : V) (H : Hp) (Q : VK) : Prop
  | mk (i : _) (j : _) (h0_ : x = .str i) (h1_ : y = .str j) (h2_ : Q (.bl (!(Builtin.Str.occurrences j i 0 j.length 1).isEmpty)) H) : r_op_in_strI x y H Q
def r_op_in_str : V → V → Hp → VK → Prop := fun x y H Q => r_op_in_strI x y H Q
theorem op_in_str : OpR X (compareOp .In) r_op_in_str := by
  intro pins s σ H x y v u Q I rx ry h
  obtain ⟨i, j, rfl, rfl, q⟩ := h
  obtain ⟨t, rfl⟩ := rx
  obtain ⟨t', rfl⟩ := ry
  exact in_str (fin_bl I q rfl)

inductive r_op_notin_strI (x : V) (y : V) (H : Hp) (Q : VK) : Prop
  | mk (i : _) (j : _) (h0_ : x = .str i) (h1_ : y = .str j) (h2_ : Q (.bl (!(!(Builtin.Str.occurrences j i 0 j.length 1).isEmpty))) H) : r_op_notin_strI x y H Q
def isObj : HO → Bool
  | .lst _ => true
  | .ins _ _ _ => true
  | _ => false
inductive r_op_is_refI (x : V) (y : V) (H : Hp) (Q : VK) : Prop
  | mk (a : _) (b : _) (oa : _) (ob : _) (h0_ : x = .ref a) (h1_ : y = .ref b) (h2_ : H a = some oa) (h3_ : isObj oa = true) (h4_ : H b = some ob) (h5_ : isObj ob = true) (h6_ : Q (.bl (decide (a = b))) H) : r_op_is_refI x y H Q
inductive r_op_isnot_refI (x : V) (y : V) (H : Hp) (Q : VK) : Prop
  | mk (a : _) (b : _) (oa : _) (ob : _) (h0_ : x = .ref a) (h1_ : y = .ref b) (h2_ : H a = some oa) (h3_ : isObj oa = true) (h4_ : H b = some ob) (h5_ : isObj ob = true) (h6_ : Q (.bl (!decide (a = b))) H) : r_op_isnot_refI x y H Q
theorem OpR.or {f : Value → Value → Sem Value} {r r' : R2} (h : OpR X f r) (h' : OpR X f r') : OpR X f (fun x y H Q => r x y H Q ∨ r' x y H Q) := by
  intro pins s σ H x y v u Q I rx ry q
  rcases q with q | q
  · exact h pins s σ H x y v u Q I rx ry q
  · exact h' pins s σ H x y v u Q I rx ry q

theorem nomark (b : Expr) {op : CmpOp} (h : op ≠ .In := by decide) (h2 : op ≠ .NotIn := by decide) : behindInMarks op b = false := by
  have e1 : (op == CmpOp.In) = false := by cases op <;> first | rfl | exact absurd rfl h
  have e2 : (op == CmpOp.NotIn) = false := by cases op <;> first | rfl | exact absurd rfl h2
  cases b <;> simp [behindInMarks, e1, e2]
theorem pe_cmpR {op : CmpOp} {r : R2} (ho : OpR X (compareOp op) r) (ha : PE X a ta) (hb : PE X b tb) (hm : behindInMarks op b = false) : PE X (.Compare a [op] [b] pos) (tOp r ta tb) := by
  intro pins s σ H Q I h
  exact wpAny_Compare1 (binT ha hb I h fun v u s2 x y H2 I2 rx ry q => ho pins s2 σ H2 x y v u Q I2 rx ry q) hm
def tTest (t : TE) : TT := fun σ H Q => t σ H fun x H' => BlQ x H' Q
theorem pt_cmpR {op : CmpOp} {r : R2} (ho : OpR X (compareOp op) r) (ha : PE X a ta) (hb : PE X b tb) (hm : behindInMarks op b = false) : PT X (.Compare a [op] [b] pos) (tTest (tOp r ta tb)) := by
  intro pins s σ H Q I h
  refine wpAny_isTrue_Compare1 (thn (ha pins s σ H _ I h) fun v s1 zq => zq.elim fun x H1 I1 r1 q1 => thn (hb pins s1 σ H1 _ I1 q1) fun u s2 ⟨y, H2, I2, r2, q2⟩ =>
    thn (ho pins s2 σ H2 x y v u _ I2 r1 r2 q2) fun c s3 ⟨z, H3, I3, r3, k, e, q3⟩ => ?_) hm
  subst e
  cases r3
  exact wpAny_truthy_bool ⟨H3, I3, q3⟩
def tChain (r r' : R2) (ta tb tc : TE) : TE := fun σ H Q => ta σ H fun x H1 => tb σ H1 fun y H2 => r x y H2 fun z H3 => ∃ k, z = .bl k ∧
  (if k = true then tc σ H3 fun w' H4 => r' y w' H4 Q else Q (.bl false) H3)
theorem pe_chain {op op' : CmpOp} {r r' : R2} (ho : OpR X (compareOp op) r) (ho' : OpR X (compareOp op') r') (ha : PE X a ta) (hb : PE X b tb) (hc : PE X c tc)
    (hm : lastMarks [op, op'] [b, c] = false := by with_unfolding_all rfl) : PE X (.Compare a [op, op'] [b, c] pos) (tChain r r' ta tb tc) := by
  intro pins s σ H Q I h
  refine Compare_chain (thn (ha pins s σ H _ I h) fun v s1 zq => zq.elim fun x H1 I1 r1 q1 => chain_link (thn (hb pins s1 σ H1 _ I1 q1) fun u s2 ⟨y, H2, I2, r2, q2⟩ =>
    thn (ho pins s2 σ H2 x y v u _ I2 r1 r2 q2) fun d s3 ⟨z, H3, I3, r3, k, e, q3⟩ => ?_)) hm
  subst e
  cases r3
  refine wpAny_truthy_bool ?_
  cases k with
  | false => exact ite_ff ⟨.bl false, H3, I3, rfl, q3⟩
  | true => exact ite_tt (chain_last (thn (hc pins s3 σ H3 _ I3 q3) fun w' s4 zq => zq.elim fun z' H4 I4 r4 q4 => ho' pins s4 σ H4 y z' u w' Q I4 r2 r4 q4))
def TruV (K : PySem.W.Frag) (x : V) (H : Hp) (k : Bool) : Prop :=
  match x with
  | .non => k = false
  | .bl b => k = b
  | .int i => k = (i != 0)
  | .str y => y.length ≤ sizeLine ∧ k = ((y.length : Int) != 0)
  | .byt y => y.size ≤ sizeLine ∧ k = ((y.size : Int) != 0)
  | .ref p => (∃ xs, SqL K H p xs ∧ k = !xs.isEmpty) ∨ (∃ xs, SqT K H p xs ∧ k = !xs.isEmpty) ∨ ∃ kvs, H p = some (.dK kvs) ∧ k = !kvs.isEmpty
  | _ => False
theorem isEmpty_kv {κ : Type} {kvs : List (κ × V)} {vs : List (κ × Value)} (r : KV kvs vs) : (!vs.isEmpty) = !kvs.isEmpty := by
  cases r <;> rfl
theorem isEmpty_of {xs : List V} {its : List Value} (r : Vals xs its) : (!its.toArray.isEmpty) = !xs.isEmpty := by
  cases r <;> simp
theorem line63 : (sizeLine : Nat) < 2 ^ 63 := by rw [sizeLine_eq]; decide
theorem tru_ok : TruR X (fun x H Q => ∃ k, TruV X.K x H k ∧ Q k H) := by
  intro pins s σ H x v Q I rx h
  obtain ⟨k, e, q⟩ := h
  have hl := line63
  have hs : sizeLine = 16777216 := sizeLine_eq
  cases x with
  | non =>
    cases rx
    have e' : k = false := e
    subst e'
    exact truthy_none ⟨H, I, q⟩
  | bl b =>
    cases rx
    have e' : k = b := e
    subst e'
    exact wpAny_truthy_bool ⟨H, I, q⟩
  | int i =>
    obtain ⟨t, rfl⟩ := rx
    have e' : k = (i != 0) := e
    subst e'
    exact PySem.P.truthy_int ⟨H, I, q⟩
  | str y =>
    obtain ⟨t, rfl⟩ := rx
    obtain ⟨hy, e'⟩ : y.length ≤ sizeLine ∧ k = ((y.length : Int) != 0) := e
    subst e'
    exact PySem.P.truthy_str (by omega) ⟨H, I.tok _, q⟩
  | byt y =>
    obtain ⟨t, rfl⟩ := rx
    obtain ⟨hy, e'⟩ : y.size ≤ sizeLine ∧ k = ((y.size : Int) != 0) := e
    subst e'
    exact PySem.W.truthy_bytes (by omega) ⟨H, I.tok _, q⟩
  | ref p =>
    cases rx
    have e' : (∃ xs, SqL X.K H p xs ∧ k = !xs.isEmpty) ∨ (∃ xs, SqT X.K H p xs ∧ k = !xs.isEmpty) ∨ ∃ kvs, H p = some (.dK kvs) ∧ k = !kvs.isEmpty := e
    rcases e' with ⟨xs, hx, e'⟩ | ⟨xs, hx, e'⟩ | ⟨kvs, hx, e'⟩
    · subst e'
      obtain ⟨its, r, pl, hz⟩ := I.list hx
      have hlen := r.length
      exact wpAny_truthy_list pl.isList (by simp only [List.size_toArray]; omega) ⟨H, I.tok _, by rw [isEmpty_of r]; exact q⟩
    · subst e'
      obtain ⟨its, r, pl, hz⟩ := I.tuple hx
      have hlen := r.length
      exact truthy_tuple pl (by simp only [List.size_toArray]; omega) ⟨H, I.tok _, by rw [isEmpty_of r]; exact q⟩
    · subst e'
      obtain ⟨hz, hS, vs, r, m⟩ : kvs.length ≤ sizeLine ∧ (p == sysModules) = false ∧ ∃ vs, KV kvs vs ∧ s.heap.DictOf (mixKind X.prog X.w) p vs := I.hok p _ hx
      have hlen : kvs.length = vs.length := Paired.length r
      exact wpAny_truthy_dict hS m (by omega) ⟨H, I.tok _, by rw [isEmpty_kv r]; exact q⟩
  | _ => exact (show False from e).elim
theorem pt_truth (ha : PE X a ta) (he : ∀ whole, isTrue a X.env whole = (do let v ← whole; standAt a.pos; holding [v] (truthy v))) :
    PT X a (fun σ H Q => ta σ H fun x H' => ∃ k, TruV X.K x H' k ∧ Q k H') := by
  intro pins s σ H Q I h
  exact isTrue_plain (thn (ha pins s σ H _ I h) fun v s1 zq => zq.elim fun x H1 I1 r1 q1 => tru_ok pins s1 σ H1 x v Q I1 r1 q1) (he _)

inductive r_op_add_strI (x : V) (y : V) (H : Hp) (Q : VK) : Prop
  | mk (i : _) (j : _) (h0_ : x = .str i) (h1_ : y = .str j) (h2_ : i.length + j.length ≤ sizeLine) (h3_ : Q (.str (i ++ j)) H) : r_op_add_strI x y H Q
def r_op_add_str : V → V → Hp → VK → Prop := fun x y H Q => r_op_add_strI x y H Q
theorem op_add_str : OpR X (binaryOp .Add) r_op_add_str := by
  intro pins s σ H x y v u Q I rx ry h
  obtain ⟨i, j, rfl, rfl, hz, q⟩ := h
  obtain ⟨t, rfl⟩ := rx
  obtain ⟨t', rfl⟩ := ry
  exact add_str (fun t' tk => ⟨.str (i ++ j), H, I.tok _, ⟨_, rfl⟩, q⟩) hz
inductive r_iop_add_strI (x : V) (y : V) (H : Hp) (Q : VK) : Prop
  | mk (i : _) (j : _) (h0_ : x = .str i) (h1_ : y = .str j) (h2_ : i.length + j.length ≤ sizeLine) (h3_ : Q (.str (i ++ j)) H) : r_iop_add_strI x y H Q
inductive r_op_add_bytI (x : V) (y : V) (H : Hp) (Q : VK) : Prop
  | mk (i : _) (j : _) (h0_ : x = .byt i) (h1_ : y = .byt j) (h2_ : i.size + j.size ≤ 16777216) (h3_ : Q (.byt (i ++ j)) H) : r_op_add_bytI x y H Q
theorem vals1 {x : V} {us : List Value} (r : Vals [x] us) : ∃ u, us = [u] ∧ RelV x u := by
  cases r with
  | cons r1 r2 => cases r2; exact ⟨_, rfl, r1⟩
theorem vals2 {x y : V} {us : List Value} (r : Vals [x, y] us) : ∃ u w', us = [u, w'] ∧ RelV x u ∧ RelV y w' := by
  cases r with
  | cons r1 r2 =>
    cases r2 with
    | cons r3 r4 => cases r4; exact ⟨_, _, rfl, r1, r3⟩
inductive r_call_absI (xs : List V) (H : Hp) (Q : VK) : Prop
  | mk (i : _) (h0_ : xs = [.int i]) (h1_ : Q (.int (if i < 0 then -i else i)) H) : r_call_absI xs H Q
inductive r_call_max2I (xs : List V) (H : Hp) (Q : VK) : Prop
  | mk (i : _) (j : _) (h0_ : xs = [.int i, .int j]) (h1_ : Q (.int (if j > i then j else i)) H) : r_call_max2I xs H Q
def r_call_max2 : List V → Hp → VK → Prop := fun xs H Q => r_call_max2I xs H Q
theorem call_max2 (hc : X.calm = true) : CallR X (.builtin "max") r_call_max2 := by
  intro pins s σ H xs us Q I r h
  obtain ⟨i, j, rfl, q⟩ := h
  obtain ⟨u, w', rfl, ⟨t, rfl⟩, ⟨t', rfl⟩⟩ := vals2 r
  refine max_two_ints (I.ok.hd hc) fun h' tk k => ⟨_, H, I.kept k, ?_, q⟩
  by_cases hj : j > i
  · rw [if_pos hj, if_pos hj]; exact ⟨_, rfl⟩
  · rw [if_neg hj, if_neg hj]; exact ⟨_, rfl⟩
inductive r_call_min2I (xs : List V) (H : Hp) (Q : VK) : Prop
  | mk (i : _) (j : _) (h0_ : xs = [.int i, .int j]) (h1_ : Q (.int (if j < i then j else i)) H) : r_call_min2I xs H Q
def r_call_min2 : List V → Hp → VK → Prop := fun xs H Q => r_call_min2I xs H Q
theorem call_min2 (hc : X.calm = true) : CallR X (.builtin "min") r_call_min2 := by
  intro pins s σ H xs us Q I r h
  obtain ⟨i, j, rfl, q⟩ := h
  obtain ⟨u, w', rfl, ⟨t, rfl⟩, ⟨t', rfl⟩⟩ := vals2 r
  refine min_two_ints (I.ok.hd hc) fun h' tk k => ⟨_, H, I.kept k, ?_, q⟩
  by_cases hj : j < i
  · rw [if_pos hj, if_pos hj]; exact ⟨_, rfl⟩
  · rw [if_neg hj, if_neg hj]; exact ⟨_, rfl⟩
inductive r_call_str_intI (xs : List V) (H : Hp) (Q : VK) : Prop
  | mk (i : _) (h0_ : xs = [.int i]) (h1_ : i.natAbs.log2 < 1920) (h2_ : Q (.str (toString i)) H) : r_call_str_intI xs H Q
inductive r_call_ordI (xs : List V) (H : Hp) (Q : VK) : Prop
  | mk (x : _) (h0_ : xs = [.str x]) (h1_ : x.length = 1) (h2_ : Q (.int (x.cps.getD 0 0 : Nat)) H) : r_call_ordI xs H Q
inductive r_call_chrI (xs : List V) (H : Hp) (Q : VK) : Prop
  | mk (i : _) (h0_ : xs = [.int i]) (h1_ : 0 ≤ i) (h2_ : i ≤ 1114111) (h3_ : Q (.str ⟨#[i.toNat]⟩) H) : r_call_chrI xs H Q
def LenV (K : PySem.W.Frag) (x : V) (H : Hp) (n : Nat) : Prop :=
  match x with
  | .str y => y.length ≤ sizeLine ∧ n = y.length
  | .byt y => y.size ≤ sizeLine ∧ n = y.size
  | .ref p => (∃ xs, SqL K H p xs ∧ n = xs.length) ∨ ∃ xs, SqT K H p xs ∧ n = xs.length
  | _ => False
inductive r_call_lenI (K : PySem.W.Frag) (xs : List V) (H : Hp) (Q : VK) : Prop
  | mk (x : _) (n : _) (h0_ : xs = [x]) (h1_ : LenV K x H n) (h2_ : Q (.int n) H) : r_call_lenI K xs H Q
inductive r_call_divmodI (xs : List V) (H : Hp) (Q : VK) : Prop
  | mk (i : _) (j : _) (h0_ : xs = [.int i, .int j]) (h1_ : CDiv i j) (h2_ : ∀ p, H p = none → Q (.ref p) (upd H p (.tup [.int (i / j), .int (i % j)]))) : r_call_divmodI xs H Q
end
end L2

namespace L2
open PySem PySem.Spec PyProof.Rows

structure ObjM (h : Heap) (x dx C : Addr) (mA : Str → Option Value) : Prop where
  obj : h.get? x = some (PySem.W.instObj C dx)
  ns : h.Ns1 dx mA
  ne : dx ≠ x

theorem lookIn_ns {h : Heap} {dx : Addr} {mA : Str → Option Value} (n : h.Ns1 dx mA) : ∃ od, h.get? dx = some od ∧ ∀ name, PySem.W.lookIn name od = some (mA name) := by
  obtain ⟨o, es, ep, ho, hd, hk, _, hm⟩ := n
  refine ⟨o, ho, fun name => ?_⟩
  have e := hm name
  unfold nsFind findBy at e
  rw [← Array.find?_toList] at e
  unfold PySem.W.lookIn
  rw [hd]
  dsimp only
  split
  · rename_i y q
    rw [q] at e
    exact congrArg some e
  · rename_i q
    rw [q] at e
    have a : es.toList.any (·.refKey) = false := by
      rw [List.any_eq_false]
      intro y hy
      obtain ⟨z, t, hkey⟩ := hk y (Array.mem_toList_iff.mp hy)
      simp [DictEntry.refKey, hkey]
    have a' : ¬ es.toList.any (·.refKey) = true := by rw [a]; exact Bool.false_ne_true
    rw [if_neg a']
    exact congrArg some e

theorem ObjM.look {h : Heap} {x dx C : Addr} {mA : Str → Option Value} (I : ObjM h x dx C mA) : ∃ od, PySem.W.InstAt h x (PySem.W.instObj C dx) C (some od) ∧ ∀ name, PySem.W.lookIn name od = some (mA name) :=
  let ⟨od, ho, hl⟩ := lookIn_ns I.ns
  ⟨od, ⟨I.obj, rfl, rfl, ho⟩, hl⟩

section
variable {prog : Program} {w : World} {A : Around} {E : Value → Shared → Prop} {s : Shared} {K : PySem.W.Frag} {x dx C f : Addr} {mA : Str → Option Value} {name : Str} {v : Value}

end

theorem RelO.some_of {v : V} {o : Option Value} (r : RelO (some v) o) : ∃ u, o = some u ∧ RelV v u := by
  cases o with
  | none => exact (show False from r).elim
  | some u => exact ⟨u, rfl, r⟩
theorem RelO.none_of {o : Option Value} (r : RelO none o) : o = none := by
  cases o with
  | none => rfl
  | some u => exact (show False from r).elim
section
variable {P : Program} {w : World} {H H' : Hp} {h h' : Heap} {a C dx : Addr} {fs fs' : List (Str × V)}
theorem ins_get (hok : HOk P w H h) (e : H a = some (.ins C dx fs)) : ∃ mA, ObjM h a dx C mA ∧ (∀ f, RelO (fs.lookup f) (mA f)) ∧ PySem.Within mA (fs.map (·.1)) ∧ fs.length ≤ 1000 ∧ H dx = some (.own a) := by
  obtain ⟨d, z, ne, ob, mA, n, r, q⟩ := (show ObjOk P w H h a (.ins C dx fs) from hok a _ e)
  exact ⟨mA, ⟨ob, n, ne⟩, r, q, z, d⟩
end

structure Cls (K : PySem.W.Frag) (C : Addr) : Prop where
  pg : PySem.W.plainGet K C Str.empty = true
  hd : PySem.W.hasDictIn K C = true
  po : PySem.W.plainOver K C = true
  sa : PySem.W.findIn K (.ref C) "__setattr__" = some (some (.builtin "object.__setattr__"))
theorem Cls.get {K : PySem.W.Frag} {C : Addr} (c : Cls K C) (f : Str) : PySem.W.plainGet K C f = true := c.pg
structure Con (K : PySem.W.Frag) (C : Addr) (f : Str) (v : V) (u : Value) : Prop where
  at_ : PySem.W.findIn K (.ref C) f = some (some u)
  rel : RelV v u
  get : PySem.W.specialIn K u "__get__" = some none
  cp : PySem.W.copiedNames.contains f = false
structure Meth (K : PySem.W.Frag) (C : Addr) (m : Str) (f : Addr) : Prop where
  at_ : PySem.W.findIn K (.ref C) m = some (some (.ref f))
  fn : PySem.W.isFn K (.ref f) = true
  kp : PySem.W.keepIn K (.ref f) = true

section
variable {X : Cx} {pins : List (Addr × Obj)} {σ : St} {H : Hp} {s : Shared} {a C dx : Addr} {fs : List (Str × V)} {f : Str} {v : V} {A : Around} {E : Value → Shared → Prop}

theorem Inv.made (I : Inv X pins σ H s) : Inv X pins σ (upd (upd H s.heap.objs.size (.own (s.heap.objs.size + 1))) (s.heap.objs.size + 1) (.ins C s.heap.objs.size []))
    { s with heap := (s.heap.push PySem.W.emptyDict).push (PySem.W.instObj C s.heap.objs.size) } := by
  have e1 : (s.heap.push PySem.W.emptyDict).get? s.heap.objs.size = some PySem.W.emptyDict := Heap.get?_push_size s.heap rfl
  have e2 : ((s.heap.push PySem.W.emptyDict).push (PySem.W.instObj C s.heap.objs.size)).get? (s.heap.objs.size + 1) = some (PySem.W.instObj C s.heap.objs.size) := by
    have := Heap.get?_push_size (s.heap.push PySem.W.emptyDict) (o := PySem.W.instObj C s.heap.objs.size) rfl
    rwa [Heap.size_push] at this
  have e3 : (s.heap.push PySem.W.emptyDict).Ns s.heap.objs.size (fun _ => none) := ⟨PySem.W.emptyDict, #[], _, e1, rfl, (fun e he => absurd he (by simp)), fun _ => rfl⟩
  have I1 := I.laid (a := s.heap.objs.size) (o := .own (s.heap.objs.size + 1)) (h' := s.heap.push PySem.W.emptyDict) (t' := s.toks) (fun b u q => Heap.get?_push_of_some _ q) (Nat.le_refl _) ⟨_, e1⟩
  refine I1.laid (a := s.heap.objs.size + 1) (o := .ins C s.heap.objs.size []) (t' := s.toks) (fun b u q => Heap.get?_push_of_some _ q) (Nat.le_of_eq (Heap.size_push _ _)) ?_
  have ne : s.heap.objs.size ≠ s.heap.objs.size + 1 := Nat.ne_of_lt (Nat.lt_succ_self _)
  refine ⟨by rw [upd_ne ne, upd_same], Nat.zero_le _, ne, e2, fun _ => none, (Heap.Ns1.of_empty e3).at fun o q => Heap.get?_push_of_some _ q, fun _ => True.intro, fun y hy => absurd rfl hy⟩

end

section
variable {X : Cx} {o e value : Expr} {f : Str} {pos pos' tpos : Pos} {ta tv : TE}
inductive rAddI (x : V) (y : V) (H : Hp) (Q : VK) : Prop
  | mk (i : _) (j : _) (x0 : x = .int i) (x1 : y = .int j) (x2 : Q (.int (i + j)) H) : rAddI  x y H Q
inductive rSubI (x : V) (y : V) (H : Hp) (Q : VK) : Prop
  | mk (i : _) (j : _) (x0 : x = .int i) (x1 : y = .int j) (x2 : Q (.int (i - j)) H) : rSubI  x y H Q
end

section
variable {X : Cx} {pins : List (Addr × Obj)} {σ : St} {H : Hp} {s : Shared} {A : Around} {E : Value → Shared → Prop} {Q : Value → Shared → Prop} {c : Value} {b : Bool}
inductive TyOf (K : PySem.W.Frag) (H : Hp) : V → Value → Prop where
  | non : TyOf K H .non (.type "NoneType")
  | bl (x : Bool) : TyOf K H (.bl x) (.type "bool")
  | int (i : Int) : TyOf K H (.int i) (.type "int")
  | str (x : Str) : TyOf K H (.str x) (.type "str")
  | flt (x : UInt64) : TyOf K H (.flt x) (.type "float")
  | lst {a : Addr} {xs : List V} (e : H a = some (.lst xs)) : TyOf K H (.ref a) (.type "list")
  | frz {a : Addr} {o : Obj} {xs : List V} (e : H a = some (.frz o (.lst xs))) : TyOf K H (.ref a) (.type "list")
  | tup {a : Addr} {xs : List V} (e : H a = some (.tup xs)) : TyOf K H (.ref a) (.type "tuple")
  | dK {a : Addr} {kvs : List (Key × V)} (e : H a = some (.dK kvs)) : TyOf K H (.ref a) (.type "dict")
  | dT {a : Addr} {kvs : List (List Key × V)} (e : H a = some (.dT kvs)) : TyOf K H (.ref a) (.type "dict")
  | ins {a C dx : Addr} {fs : List (Str × V)} (e : H a = some (.ins C dx fs)) (cl : Cls K C) (ha : PySem.W.findIn K (.ref C) "__class__" = some (some (.builtin "object.__class__")))
      (hn : PySem.W.specialIn K (.builtin "object.__class__") "__get__" = some (some (.builtin "getset_descriptor.__get__"))) (htk : PySem.W.takesIn K (.builtin "object.__class__") = some true)
      (hm : PySem.W.mroIn K C (.type "object") = some true) : TyOf K H (.ref a) (.ref C)
theorem isinst_ok {x : V} {u t : Value} (I : Inv X pins σ H s) (rx : RelV x u) (ty : TyOf X.K H x t) (e : PySem.W.kitOne X.K t c = some b) (h : ∀ tk, Q (.bool b) { s with toks := tk }) :
    wpAny (model X.prog X.w) A (call (.builtin "isinstance") [u, c]) Q E s := by
  cases ty with
  | non => cases (show u = Value.none from rx); exact PySem.W.kia_one PySem.W.kitx_none I.kIn True.intro e (fun z => nomatch z) h
  | bl y => cases (show u = Value.bool y from rx); exact PySem.W.kia_one PySem.W.kitx_bool I.kIn True.intro e (fun z => nomatch z) h
  | int i => obtain ⟨t, q⟩ := (show ∃ t, u = Value.int i t from rx); cases q; exact PySem.W.kia_one PySem.W.kitx_int I.kIn True.intro e (fun z => nomatch z) h
  | str y => obtain ⟨t, q⟩ := (show ∃ t, u = Value.str y t from rx); cases q; exact PySem.W.kia_one PySem.W.kitx_str I.kIn True.intro e (fun z => nomatch z) h
  | flt y => obtain ⟨t, q⟩ := (show ∃ t, u = Value.float y t from rx); cases q; exact PySem.W.kia_one PySem.W.kitx_float I.kIn True.intro e (fun z => nomatch z) h
  | @lst a xs ea =>
    cases (show u = Value.ref a from rx)
    obtain ⟨_, _, n, _, h1⟩ := (show ObjOk X.prog X.w H s.heap a (.lst xs) from I.hok a _ ea)
    exact PySem.W.kia_one PySem.W.kitx_list I.kIn ⟨_, h1, rfl⟩ e (fun z => nomatch z) h
  | @frz a ob xs ea =>
    cases (show u = Value.ref a from rx)
    obtain ⟨_, _, _, n, _, h1⟩ := (show ObjOk X.prog X.w H s.heap a (.frz ob (.lst xs)) from I.hok a _ ea)
    exact PySem.W.kia_one PySem.W.kitx_list I.kIn ⟨_, h1, rfl⟩ e (fun z => nomatch z) h
  | @tup a xs ea =>
    cases (show u = Value.ref a from rx)
    obtain ⟨_, _, _, p⟩ := (show ObjOk X.prog X.w H s.heap a (.tup xs) from I.hok a _ ea)
    obtain ⟨o, h1, h2, _⟩ := p
    exact PySem.W.kia_one PySem.W.kitx_tuple I.kIn ⟨o, h1, h2⟩ e (fun z => nomatch z) h
  | @dK a kvs ea =>
    cases (show u = Value.ref a from rx)
    obtain ⟨_, _, vs, _, p⟩ := (show ObjOk X.prog X.w H s.heap a (.dK kvs) from I.hok a _ ea)
    obtain ⟨o, es, ep, h1, h2, _⟩ := p
    exact PySem.W.kia_one PySem.W.kitx_dict I.kIn ⟨o, h1, h2.1⟩ e (fun z => nomatch z) h
  | @dT a kvs ea =>
    cases (show u = Value.ref a from rx)
    obtain ⟨_, _, xs, _, o, es, ep, h1, h2, _⟩ := (show ObjOk X.prog X.w H s.heap a (.dT kvs) from I.hok a _ ea)
    exact PySem.W.kia_one PySem.W.kitx_dict I.kIn ⟨o, h1, h2.1⟩ e (fun z => nomatch z) h
  | @ins a C dx fs ea cl ha hn htk hm =>
    cases (show u = Value.ref a from rx)
    obtain ⟨mA, O, _⟩ := ins_get I.hok ea
    obtain ⟨od, J, _⟩ := O.look
    exact PySem.W.kia_one (PySem.W.kitx_own (cl.get _) cl.hd ha hn htk hm) I.kIn J e (fun z => nomatch z) h
end
end L2

namespace L2
open PySem PySem.Spec PyProof.Rows

structure Room (k : Nat) (A : Around) : Prop where
  hd : A.handled = none
  dp : A.depth + 3 * k + 5 < recursionLimit
  un : A.units + 16 * k + 200 < cLine
  gd : A.guards = some []
theorem Room.mono {j k : Nat} {A : Around} (r : Room k A) (h : j ≤ k) : Room j A := ⟨r.hd, by have := r.dp; omega, by have := r.un; omega, r.gd⟩
theorem Room.deeper {k : Nat} {A : Around} (r : Room (k + 1) A) (env : Env) : Room k (A.deeper env) :=
  ⟨r.hd, by have := r.dp; show A.depth + 1 + 3 * k + 5 < _; omega, by have := r.un; show A.units + 3 + 16 * k + 200 < _; omega, r.gd⟩
theorem Room.in1 {k : Nat} {A : Around} (r : Room (k + 1) A) : Room k A.in1 :=
  ⟨r.hd, by have := r.dp; show A.depth + 3 * k + 5 < _; omega, by have := r.un; show A.units + 1 + 16 * k + 200 < _; omega, r.gd⟩
theorem make_depth {A : Around} {C : Addr} {us : List Value} {kw : List (Str × Value)} : (A.under (.builtin "type.__call__" ⟨.ref C :: us, kw⟩)).depth = A.depth + 1 := by
  first | rfl | simp [Around.under, Code.weight, Code.isCreation, Code.isGuard, Code.isCaller, Code.frames, Code.isFrame, guardIds]
theorem make_units {A : Around} {C : Addr} {us : List Value} {kw : List (Str × Value)} : (A.under (.builtin "type.__call__" ⟨.ref C :: us, kw⟩)).units = A.units + 1 := by
  first | rfl | simp [Around.under, Code.cUnits, Code.frames, Code.isFrame]
theorem make_guards {A : Around} {C : Addr} {us : List Value} {kw : List (Str × Value)} : (A.under (.builtin "type.__call__" ⟨.ref C :: us, kw⟩)).guards = A.guards := by
  have e : (Code.builtin "type.__call__" ⟨.ref C :: us, kw⟩).isGuard = false := by show guardIds.contains "type.__call__" = false; decide +kernel
  obtain ⟨a, b, c, g, d⟩ := A
  cases g <;> simp [Around.under, Code.guards, e, pushGuards]
theorem Room.make {k : Nat} {A : Around} (r : Room (k + 1) A) (C : Addr) (us : List Value) (kw : List (Str × Value)) : Room k (A.under (.builtin "type.__call__" ⟨.ref C :: us, kw⟩)) :=
  ⟨r.hd, by have := r.dp; rw [make_depth]; omega, by have := r.un; rw [make_units]; omega, by rw [make_guards]; exact r.gd⟩
theorem Room.depth {k : Nat} {A : Around} (r : Room k A) : A.depth < recursionLimit := by have := r.dp; omega
theorem Room.units {k : Nat} {A : Around} (r : Room k A) : A.units + 64 < cLine := by have := r.un; omega
theorem Room.units0 {k : Nat} {A : Around} (r : Room k A) : A.units < cLine := by have := r.un; omega

def tNil : TA := fun _ H Q => Q [] H
def tCons (ta : TE) (tr : TA) : TA := fun σ H Q => ta σ H fun x H1 => tr σ H1 fun xs H2 => Q (x :: xs) H2
section
variable {X : Cx} {e : Expr} {es : List Expr} {te : TE} {t : TA} {pos : Pos}
theorem pa_nil : PA X [] tNil := fun _ _ _ _ H Q I h => Calls.spliced_nil ⟨[], H, I, .nil, h⟩
theorem pa_cons (ha : PE X e te) (hr : PA X es t) (hs : starEach (e :: es) X.env = (false, eval e X.env) :: starEach es X.env := by rfl) : PA X (e :: es) (tCons te t) := by
  intro pos pins s σ H Q I h
  rw [hs]
  show wpAny _ _ (spliced ((false, eval e X.env) :: backTo pos (starEach es X.env))) _ _ s
  refine Calls.spliced_cons (thn (ha pins s σ H _ I h) fun u s1 zq => zq.elim fun x H1 I1 r1 q1 => ?_)
  exact thn (hr pos pins s1 σ H1 _ I1 q1) fun us s2 zq => zq.elim fun xs H2 I2 r2 q2 => ⟨x :: xs, H2, I2, .cons r1 r2, q2⟩

def tTup (t : TA) : TE := fun σ H Q => t σ H fun xs H1 => xs.length ≤ sizeLine ∧ ∀ p, H1 p = none → Q (.ref p) (upd H1 p (.tup xs))
def tLst (t : TA) : TE := fun σ H Q => t σ H fun xs H1 => xs.length ≤ sizeLine ∧ ∀ p, H1 p = none → Q (.ref p) (upd H1 p (.lst xs))
theorem pe_tup {x1} (h : PA X es t) : PE X (.Tuple es x1 pos) (tTup t) := by
  intro pins s σ H Q I hq
  refine wpAny_Tuple_spliced (thn (h pos pins s σ H _ I hq) fun us s1 ⟨xs, H1, I1, r, z, q⟩ => ⟨by rw [← r.length]; exact z, ?_⟩)
  have hf : H1 s1.heap.objs.size = none := I1.hok.fresh (Nat.le_refl _)
  refine ⟨.ref s1.heap.objs.size, upd H1 s1.heap.objs.size (.tup xs), I1.laid (t' := s1.toks) (fun b u e => Heap.get?_push_of_some _ e) (Nat.le_refl _) ?_, rfl, q _ hf⟩
  exact ⟨z, us, r, ⟨_, Heap.get?_push_size _ rfl, rfl, _, rfl⟩⟩
theorem pe_lst (h : PA X es t) : PE X (.List es pos) (tLst t) := by
  intro pins s σ H Q I hq
  refine wpAny_List_spliced (thn (h pos pins s σ H _ I hq) fun us s1 ⟨xs, H1, I1, r, z, q⟩ => ⟨by rw [← r.length]; exact z, ?_⟩)
  have hf : H1 s1.heap.objs.size = none := I1.hok.fresh (Nat.le_refl _)
  refine ⟨.ref s1.heap.objs.size, upd H1 s1.heap.objs.size (.lst xs), I1.laid (t' := s1.toks) (fun b u e => Heap.get?_push_of_some _ e) (Nat.le_refl _) ?_, rfl, q _ hf⟩
  exact ⟨z, us, 0, r, Heap.get?_push_size _ rfl⟩
end

abbrev Sp := List V → Hp → VK → XK → Prop
abbrev CXT := List Env → Hp → Shared → XK → Value → Shared → Prop

structure Env0 (P : Program) (w : World) (K : PySem.W.Frag) (mg : Str → Option Value) (base : Heap) (A : Around) (outer : List Env) (s : Shared) (H : Hp) : Prop where
  frames : A.frames = some outer
  mod : Mod K mg base
  bs : ∀ b o, base.get? b = some o → s.heap.get? b = some o ∧ H b = none
  bsz : base.objs.size ≤ s.heap.objs.size
  funs : s.heap.FunFrames base outer
  frf : ∀ b ∈ frs outer, H b = none
  hok : HOk P w H s.heap
  bare : AllBare s.gens
inductive CE (outer : List Env) (P : Program) (w : World) (H : Hp) (s : Shared) (Q : VK) (u : Value) (s' : Shared) : Prop
  | mk (v : V) (H' : Hp) (os : s'.os = s.os) (bare : AllBare s'.gens) (un : Un (frs outer) [] H H' s.heap s'.heap) (hok : HOk P w H' s'.heap) (r : RelV v u) (q : Q v H') : CE outer P w H s Q u s'
def CR (CX : CXT) (outer : List Env) (P : Program) (w : World) (H : Hp) (s : Shared) (Q : VK) (E : XK) (r : Result) (s' : Shared) : Prop :=
  match r with
  | .ok (.ret u) => CE outer P w H s Q u s'
  | .ok _ => False
  | .error e => CX outer H s E e s'
structure FnOk (P : Program) (w : World) (K : PySem.W.Frag) (mg : Str → Option Value) (base : Heap) (CX : CXT) (k : Nat) (f : Addr) (fd : FuncData) (ps : List Str) (sp : Sp) : Prop where
  len : ∀ vs H Q E, sp vs H Q E → vs.length = ps.length
  run : ∀ (A : Around) (outer : List Env) (s : Shared) (H : Hp) (args : Args) (us : List Value) (vs : List V) (Q : VK) (E : XK), Room k A → Env0 P w K mg base A outer s H → BindsTo s fd args (ps.zip us) → Vals vs us → sp vs H Q E →
    codeAny (model P w) A (.call (.ref f) args) (CR CX outer P w H s Q E) s
theorem FnOk.mono {P : Program} {w : World} {K : PySem.W.Frag} {mg : Str → Option Value} {base : Heap} {CX : CXT} {j k : Nat} {f : Addr} {fd : FuncData} {ps : List Str} {sp : Sp} (F : FnOk P w K mg base CX j f fd ps sp) (h : j ≤ k) :
    FnOk P w K mg base CX k f fd ps sp := ⟨F.len, fun A outer s H args us vs Q E hr => F.run A outer s H args us vs Q E (hr.mono h)⟩
theorem FnOk.imp {P : Program} {w : World} {K : PySem.W.Frag} {mg : Str → Option Value} {base : Heap} {CX : CXT} {k : Nat} {f : Addr} {fd : FuncData} {ps : List Str} {sp sp' : Sp} (F : FnOk P w K mg base CX k f fd ps sp)
    (h : ∀ vs H Q E, sp' vs H Q E → sp vs H Q E) : FnOk P w K mg base CX k f fd ps sp' :=
  ⟨fun vs H Q E q => F.len vs H Q E (h _ _ _ _ q), fun A outer s H args us vs Q E hr he hb hv hs => F.run A outer s H args us vs Q E hr he hb hv (h _ _ _ _ hs)⟩

theorem Env0.make {P : Program} {w : World} {K : PySem.W.Frag} {mg : Str → Option Value} {base : Heap} {A : Around} {outer : List Env} {s : Shared} {H : Hp} (e : Env0 P w K mg base A outer s H) (C : Addr) (us : List Value) (kw : List (Str × Value)) :
    Env0 P w K mg base (A.under (.builtin "type.__call__" ⟨.ref C :: us, kw⟩)) outer s H := ⟨by first | exact e.frames | (simpa [Around.under, Code.envs, Code.isFrame, pushEnvs] using e.frames), e.mod, e.bs, e.bsz, e.funs, e.frf, e.hok, e.bare⟩
theorem Env0.in1 {P : Program} {w : World} {K : PySem.W.Frag} {mg : Str → Option Value} {base : Heap} {A : Around} {outer : List Env} {s : Shared} {H : Hp} (e : Env0 P w K mg base A outer s H) :
    Env0 P w K mg base A.in1 outer s H := ⟨e.frames, e.mod, e.bs, e.bsz, e.funs, e.frf, e.hok, e.bare⟩

section
variable {X : Cx} {pins : List (Addr × Obj)} {σ : St} {H : Hp} {s s' : Shared}
theorem Inv.env0 (I : Inv X pins σ H s) : Env0 X.prog X.w X.K X.mg X.base X.A X.stack s H :=
  ⟨I.ok.frames, I.ok.mod, I.bs, Nat.le_trans I.ok.bsz I.sz, I.stack, I.stkFree, I.hok, I.bare⟩
theorem Inv.after {Q : VK} {u : Value} (I : Inv X pins σ H s) (h : CE X.stack X.prog X.w H s Q u s') : EP X pins σ Q u s' := by
  obtain ⟨v, H', os, bare, un, hok, r, q⟩ := h
  obtain ⟨hh, g, d, t, os'⟩ := s'
  obtain rfl : os' = s.os := os
  exact ⟨v, H', I.call (h' := hh) (g' := g) (d' := d) (t' := t) (ch := []) un hok bare (fun b z => absurd z (by simp)), r, q⟩
end

def tCall (sp : Sp) (dvs : List V) (E : XK) (t : TA) : TE := fun σ H Q => t σ H fun vs H1 => sp (vs ++ dvs) H1 Q E
def Binds (K : PySem.W.Frag) (fd : FuncData) (ps : List Str) (ds : List Value) : Prop :=
  ∀ (s : Shared) (us : List Value), K.In s.heap → (us ++ ds).length = ps.length → BindsTo s fd ⟨us, []⟩ (ps.zip (us ++ ds))
theorem Binds.all {K : PySem.W.Frag} {fd : FuncData} {ps : List Str} (h : ∀ us : List Value, us.length = ps.length → bindArgs fd ⟨us, []⟩ = pure (ps.zip us)) : Binds K fd ps [] := fun s us _ hl => by
  rw [List.append_nil] at hl ⊢
  exact .of_eq (h us hl)

def Passes (CX : CXT) (X : Cx) (E : XK) : Prop := ∀ (pins : List (Addr × Obj)) (σ : St) (H : Hp) (s : Shared) (e : Value) (s' : Shared), Inv X pins σ H s → CX X.stack H s E e s' → X.xe e s'

section
variable {X : Cx} {CX : CXT} {k : Nat} {f C : Addr} {fd : FuncData} {ps : List Str} {sp : Sp} {dvs : List V} {ds : List Value} {E : XK} {x m : Str} {p pos apos : Pos} {e o : Expr} {es : List Expr} {ta : TE} {t : TA}

theorem run_fn {pins : List (Addr × Obj)} {σ : St} {H : Hp} {s : Shared} {Q : VK} {us : List Value} {vs : List V} (F : FnOk X.prog X.w X.K X.mg X.base CX k f fd ps sp) (hr : Room k X.A) (hb : Binds X.K fd ps ds) (hd : Vals dvs ds) (hx : Passes CX X E)
    (I : Inv X pins σ H s) (r : Vals vs us) (h : sp (vs ++ dvs) H Q E) : wpAny (model X.prog X.w) X.A (call (.ref f) us) (EP X pins σ Q) X.xe s := by
  have r2 : Vals (vs ++ dvs) (us ++ ds) := r.append hd
  have hl : (us ++ ds).length = ps.length := by rw [← r2.length]; exact F.len _ _ _ _ h
  refine wpAny_call (codeAny_mono (F.run X.A X.stack s H ⟨us, []⟩ (us ++ ds) (vs ++ dvs) Q E hr I.env0 (hb s us I.kIn hl) r2 h) fun r s' hq => ?_)
  cases r with
  | error e => exact hx pins σ H s e s' I hq
  | ok fl =>
    cases fl with
    | ret u => exact I.after hq
    | next => exact False.elim hq
    | brk => exact False.elim hq
    | cont => exact False.elim hq

theorem pe_call (F : FnOk X.prog X.w X.K X.mg X.base CX k f fd ps sp) (hr : Room k X.A) (hg : Gl X x) (hm : X.mg x = some (.ref f)) (hk : PySem.W.keepIn X.K (.ref f) = true) (hb : Binds X.K fd ps ds) (hd : Vals dvs ds) (hx : Passes CX X E)
    (ha : PA X (e :: es) t) (hdb : (x == ("__debug__" : Str)) = false := by decide) (he : starEach (e :: es) X.env = (false, eval e X.env) :: starEach es X.env := by rfl) (hpl : (backTo pos (starEach es X.env)).any (·.1) = false := by rfl) :
    PE X (.Call (.Name x p) (e :: es) [] pos) (tCall sp dvs E t) := by
  intro pins s σ H Q I h
  refine wpAny_Call_Name_kw (ld_glob I hg hm ?_ hdb)
  refine PySem.W.callWith_K (h₀ := X.base) I.ok.mod.kin hk (thn (ha pos pins s σ H _ I h) fun us s1 zq => zq.elim fun vs H1 I1 r q => ⟨I1.kIn, ?_⟩) he hpl
  exact run_fn F hr hb hd hx I1 r q
structure Mk (K : PySem.W.Frag) (C f : Addr) : Prop where
  makes : PySem.W.makesIn K C = true
  init : PySem.W.findIn K (.ref C) "__init__" = some (some (.ref f))
  fn : PySem.W.isFn K (.ref f) = true
  kp : PySem.W.keepIn K (.ref C) = true

end

section
variable {X : Cx} {CX : CXT} {k : Nat} {f C : Addr} {fd : FuncData} {ps ks : List Str} {sp : Sp} {E : XK} {x m : Str} {p pos apos kpos : Pos} {e o : Expr} {es : List Expr} {kws : List Keyword} {te ta : TE} {t tk : TA} {nm : Option Str}
structure KBinds (K : PySem.W.Frag) (fd : FuncData) (ps ks : List Str) (g : List Value → List Value → List Value) (gV : List V → List V → List V) : Prop where
  to : ∀ (s : Shared) (us ws : List Value), K.In s.heap → (g us ws).length = ps.length → BindsTo s fd ⟨us, ks.zip ws⟩ (ps.zip (g us ws))
  rel : ∀ {vs : List V} {us : List Value} {zs : List V} {ws : List Value}, Vals vs us → Vals zs ws → Vals (gV vs zs) (g us ws)
variable {g : List Value → List Value → List Value} {gV : List V → List V → List V}
end

structure FnScope (N P : List Str) (sc : Scope) : Prop where
  kind : sc.kind = .function
  co : sc.isCoroutine = false
  gen : sc.isGenerator = false
  nd : N.Nodup
  pre : N.take P.length = P
  par : ∀ x ∈ P, sc.names.lookup x = some .local ∨ sc.names.lookup x = some .cell
  nofree : ∀ y ∈ sc.names, y.2 ≠ .free

theorem bindL_out {kindOf : Str → Option NameKind} {x : Str} : ∀ {binds : List (Str × Value)} {m : Str → Option Value}, (∀ v, (x, v) ∉ binds) → bindL kindOf binds m x = m x
  | [], _, _ => rfl
  | (n, v) :: r, m, h => by
    unfold bindL
    rw [bindL_out fun w hw => h w (List.mem_cons_of_mem _ hw)]
    split
    · have : x ≠ n := by rintro rfl; exact h v List.mem_cons_self
      simp [this]
    · rfl
theorem bindC_out {kindOf : Str → Option NameKind} {x : Str} : ∀ {binds : List (Str × Value)} {m : Str → Option Value}, (∀ v, (x, v) ∉ binds) → bindC kindOf binds m x = m x
  | [], _, _ => rfl
  | (n, v) :: r, m, h => by
    unfold bindC
    rw [bindC_out fun w hw => h w (List.mem_cons_of_mem _ hw)]
    split
    · rfl
    · have : x ≠ n := by rintro rfl; exact h v List.mem_cons_self
      simp [this]
theorem bindL_get {kindOf : Str → Option NameKind} {x : Str} {v : Value} : ∀ {P : List Str} {vs : List Value} {i : Nat} {m : Str → Option Value}, P.Nodup → P[i]? = some x → vs[i]? = some v → kindOf x = some .local →
    bindL kindOf (P.zip vs) m x = some v
  | [], _, _, _, _, h, _, _ => by simp at h
  | _ :: _, [], _, _, _, _, h, _ => by simp at h
  | p :: P, w :: vs, 0, m, nd, h1, h2, hk => by
    simp at h1 h2; subst h1; subst h2
    show bindL kindOf ((p, w) :: P.zip vs) m p = _
    unfold bindL
    rw [bindL_out fun v hv => (List.nodup_cons.mp nd).1 (List.of_mem_zip hv).1, if_pos hk]
    simp
  | p :: P, w :: vs, i + 1, m, nd, h1, h2, hk => by
    show bindL kindOf ((p, w) :: P.zip vs) m x = _
    unfold bindL
    exact bindL_get (i := i) (List.nodup_cons.mp nd).2 (by simpa using h1) (by simpa using h2) hk
theorem bindC_get {kindOf : Str → Option NameKind} {x : Str} {v : Value} : ∀ {P : List Str} {vs : List Value} {i : Nat} {m : Str → Option Value}, P.Nodup → P[i]? = some x → vs[i]? = some v → kindOf x ≠ some .local →
    bindC kindOf (P.zip vs) m x = some v
  | [], _, _, _, _, h, _, _ => by simp at h
  | _ :: _, [], _, _, _, _, h, _ => by simp at h
  | p :: P, w :: vs, 0, m, nd, h1, h2, hk => by
    simp at h1 h2; subst h1; subst h2
    show bindC kindOf ((p, w) :: P.zip vs) m p = _
    unfold bindC
    rw [bindC_out fun v hv => (List.nodup_cons.mp nd).1 (List.of_mem_zip hv).1, if_neg hk]
    simp
  | p :: P, w :: vs, i + 1, m, nd, h1, h2, hk => by
    show bindC kindOf ((p, w) :: P.zip vs) m x = _
    unfold bindC
    exact bindC_get (i := i) (List.nodup_cons.mp nd).2 (by simpa using h1) (by simpa using h2) hk

def start (N : List Str) (vs : List V) : St := vs.map some ++ List.replicate (N.length - vs.length) none

def cxOf (CX : CXT) (P : Program) (w : World) (K : PySem.W.Frag) (mg : Str → Option Value) (base : Heap) (N : List Str) (qual : Str) (scope : Scope) (f : Addr) (cd : Value) (A : Around) (outer : List Env) (s : Shared) (H : Hp) (E : XK) : Cx where
  prog := P
  w := w
  K := K
  mg := mg
  base := base
  A := A.deeper (envOfC qual scope s.heap.objs.size f cd)
  N := N
  s₀ := s
  H₀ := H
  env := envOfC qual scope s.heap.objs.size f cd
  outer := outer
  stack := envOfC qual scope s.heap.objs.size f cd :: outer
  ex := []
  calm := true
  fn := fun _ => true
  pn := []
  xe := fun e s' => wpAny (model P w) (A.deeper (envOfC qual scope s.heap.objs.size f cd)) (leaving (envOfC qual scope s.heap.objs.size f cd) e) (fun _ s'' => CX outer H s E e s'') (fun e' s'' => CX outer H s E e' s'') s'

theorem cell_has {sc : Scope} {n : Nat} {x : Str} (h : sc.names.lookup x = some .cell) : ∃ c, (cellsFrom n sc.names []).lookup x = some c := by
  have q := PySem.W.cellsFrom_some sc.names n [] (.inl h)
  exact Option.isSome_iff_exists.mp q

theorem inv_start {CX : CXT} {P : Program} {w : World} {K : PySem.W.Frag} {mg : Str → Option Value} {base : Heap} {N ps : List Str} {qual : Str} {scope : Scope} {f : Addr} {cd : Value} {A : Around} {outer : List Env} {s s1 : Shared} {H : Hp} {E : XK} {us : List Value} {vs : List V}
    (S : FnScope N ps scope) (hd : A.handled = none) (e0 : Env0 P w K mg base A outer s H) (hl : vs.length = ps.length) (r : Vals vs us)
    (x : InCallC s s.heap.objs.size (bindL (envOfC qual scope s.heap.objs.size f cd).kindOf (ps.zip us) fun _ => none) (cellsFrom (s.heap.objs.size + 1) scope.names []) (bindC (envOfC qual scope s.heap.objs.size f cd).kindOf (ps.zip us) fun _ => none) s1) :
    Inv (cxOf CX P w K mg base N qual scope f cd A outer s H E) [] (start N vs) H s1 := by
  have hpl : ps.length ≤ N.length := by have := congrArg List.length S.pre; rw [List.length_take] at this; omega
  obtain ⟨h1, tk, rfl, hk⟩ := x.done
  have noA : ∀ b : Addr, b ∉ (cxOf CX P w K mg base N qual scope f cd A outer s H E).ex := fun b z => absurd (show b ∈ ([] : List Addr) from z) (by simp)
  refine ⟨⟨e0.mod, S.kind, rfl, rfl, Nat.le_refl _, fun y z c h1 h2 => ?_, fun y hy => ?_, fun y c _ h => ?_, fun _ => hd, Around.frames_deeper e0.frames, .inr ⟨rfl, rfl⟩, fun b z => absurd z (noA b), e0.bs, e0.bsz, fun b _ _ => noA b, fun b z => absurd z (noA b), e0.funs, e0.frf⟩,
    rfl, e0.bare, Un.kept hk, ⟨_, x.toInCall.ns, fun i y v h1 h2 h3 => ?_⟩, fun y c h => ⟨_, x.cell y c h⟩, e0.hok.fresh (Nat.le_refl _), fun y c h => ?_, fun p hp => absurd (show p ∈ ([] : List (Addr × Obj)) from hp) (by simp), e0.hok.kept hk, ?_⟩
  · exact name_of_addr x.apart (PySem.mem_of_lookup h1) (PySem.mem_of_lookup h2)
  · have hy : scope.names.lookup y = some .cell ∨ scope.names.lookup y = some .free := hy
    rcases hy with hy | hy
    · exact cell_has hy
    · exact absurd rfl (S.nofree _ (PySem.mem_of_lookup hy))
  · exact Nat.le_of_lt (x.above y c (PySem.mem_of_lookup h))
  · have hi : i < vs.length := by
      unfold start at h2
      by_cases hi : i < vs.length
      · exact hi
      · rw [List.getElem?_append_right (by simpa using hi)] at h2
        rw [List.getElem?_replicate] at h2
        split at h2 <;> cases h2
    have ha : vs[i]? = some v := by
      unfold start at h2
      rw [List.getElem?_append_left (by simpa using hi), List.getElem?_map] at h2
      cases e : vs[i]? with
      | none => rw [e] at h2; cases h2
      | some a => rw [e] at h2; cases h2; rfl
    obtain ⟨u, hu, rv⟩ := r.get ha
    have hp : ps[i]? = some y := by
      rw [← S.pre, List.getElem?_take_of_lt (by omega)]; exact h1
    have ndP : ps.Nodup := by rw [← S.pre]; exact S.nd.sublist (List.take_sublist _ _)
    refine ⟨u, rv, ?_⟩
    rcases S.par y (List.mem_of_getElem? hp) with k | k
    · exact .inl ⟨k, bindL_get ndP hp hu k⟩
    · obtain ⟨c, e⟩ := cell_has (n := s.heap.objs.size + 1) k
      refine .inr ⟨.inl k, c, e, ?_⟩
      have q := x.cell y c e
      rw [bindC_get ndP hp hu (by show scope.names.lookup y ≠ _; rw [k]; decide)] at q
      exact q
  · exact e0.hok.fresh (Nat.le_of_lt (x.above y c (PySem.mem_of_lookup h)))
  · unfold start
    show _ = N.length
    rw [List.length_append, List.length_map, List.length_replicate]
    omega

theorem fn_of {CX : CXT} {P : Program} {w : World} {K : PySem.W.Frag} {mg : Str → Option Value} {base : Heap} {k : Nat} {f : Addr} {name qual : Str} {params : Arguments} {body : List Stmt} {scope : Scope} {dV kV doc pm cdv ct oc : Value} {an od : Option Addr}
    {osl : Array (Option Value)} {N ps : List Str} {sp : Sp} (lk : K.lookup f = some ⟨oc, od, .func (PySem.W.fnOf name qual params body scope dV kV doc pm an cdv ct), osl⟩) (hcd : PySem.W.codeIn K cdv qual = true) (S : FnScope N ps scope)
    (len : ∀ vs H Q E, sp vs H Q E → vs.length = ps.length)
    (hbody : ∀ (A : Around) (outer : List Env) (s : Shared) (H : Hp) (vs : List V) (Q : VK) (E : XK), Room k (A.deeper (envOfC qual scope s.heap.objs.size f cdv)) → sp vs H Q E →
      ∃ t, PSs (cxOf CX P w K mg base N qual scope f cdv A outer s H E) body t ∧ t { nx := fun _ H' => Q .non H', rt := Q } (start N vs) H) :
    FnOk P w K mg base CX (k + 1) f (PySem.W.fnOf name qual params body scope dV kV doc pm an cdv ct) ps sp := by
  refine ⟨len, fun A outer s H args us vs Q E hr e0 hb r hsp => ?_⟩
  have hl := len _ _ _ _ hsp
  have KX : K.In s.heap := e0.mod.kin.keeps fun b o e => (e0.bs b o e).1
  have lim : s.heap.NoLimit := e0.mod.nolimit.keeps fun b o e => (e0.bs b o e).1
  have hkind : ∀ y ∈ ps.zip us, scope.names.lookup y.1 = some .local ∨ (scope.names.lookup y.1 = some .cell ∧ ((cellsFrom (s.heap.objs.size + 1) scope.names []).lookup y.1).isSome = true) := fun ⟨n, v⟩ hy => by
    rcases S.par n (List.of_mem_zip hy).1 with q | q
    · exact .inl q
    · exact .inr ⟨q, PySem.W.cellsFrom_some _ _ _ (.inl q)⟩
  refine codeAny_call_function hr.depth (KX _ _ lk) rfl S.co S.gen rfl (PySem.W.codeRec_of KX hcd) (hb _ _ _ _ ?_)
  refine wpAny_newFunctionEnv_cells S.kind hkind fun env he s1 x => ?_
  subst he
  refine ⟨lim.keeps x.toInCall.keep, codeAny_func ?_⟩
  obtain ⟨t, ht, hq⟩ := hbody A outer s H vs Q E (hr.deeper _) hsp
  have I : Inv (cxOf CX P w K mg base N qual scope f cdv A outer s H E) [] (start N vs) H s1 := inv_start S hr.hd e0 hl r x
  refine wpAny_mono (ht [] s1 (start N vs) H _ I hq) (fun fl s' hs => ?_) fun e s' hs => hs
  have fin : ∀ {σ' : St} {H' : Hp} {v : V} {u : Value}, Inv (cxOf CX P w K mg base N qual scope f cdv A outer s H E) [] σ' H' s' → RelV v u → Q v H' → CE outer P w H s Q u s' :=
    fun {σ' H' v u} J rv q => ⟨v, H', J.os, J.bare, J.base, J.hok, rv, q⟩
  cases fl with
  | ret u =>
    obtain ⟨v, σ', H', J, rv, q⟩ := hs
    exact fin J rv q
  | next =>
    obtain ⟨σ', H', J, q⟩ := hs
    exact fin (v := V.non) (u := Value.none) J rfl q
  | brk =>
    obtain ⟨_, _, _, q⟩ := hs
    exact False.elim q
  | cont =>
    obtain ⟨_, _, _, q⟩ := hs
    exact False.elim q
end L2

namespace L2
open PySem PySem.Spec PyProof.Rows
section
variable {X : Cx} {x : Str} {p pos : Pos} {e : Expr} {es : List Expr} {t : TA} {id T : String} {r : List V → Hp → VK → Prop}

def tCB (r : List V → Hp → VK → Prop) (t : TA) : TE := fun σ H Q => t σ H fun vs H1 => r vs H1 Q
theorem pe_callB (hc : CallR X (.builtin id) r) (hg : Gl X x) (hm : X.mg x = none) (hv : bootBuiltins x = some (.builtin id)) (ha : PA X (e :: es) t) (hn : x ≠ "__name__" := by decide) (hdb : (x == ("__debug__" : Str)) = false := by decide)
    (he : starEach (e :: es) X.env = (false, eval e X.env) :: starEach es X.env := by rfl) (hpl : (backTo pos (starEach es X.env)).any (·.1) = false := by rfl) : PE X (.Call (.Name x p) (e :: es) [] pos) (tCB r t) := by
  intro pins s σ H Q I h
  refine wpAny_Call_Name_kw (ld_blt I hg hm hv ?_ hn hdb)
  exact PyProof.Rows.callWith_builtin1 (thn (ha pos pins s σ H _ I h) fun us s1 zq => zq.elim fun vs H1 I1 r1 q1 => hc pins s1 σ H1 vs us Q I1 r1 q1) he hpl
theorem pe_callTy (hc : CallR X (.type T) r) (hg : Gl X x) (hm : X.mg x = none) (hv : bootBuiltins x = some (.type T)) (ha : PA X (e :: es) t) (hn : x ≠ "__name__" := by decide) (hdb : (x == ("__debug__" : Str)) = false := by decide)
    (he : starEach (e :: es) X.env = (false, eval e X.env) :: starEach es X.env := by rfl) (hpl : (backTo pos (starEach es X.env)).any (·.1) = false := by rfl) : PE X (.Call (.Name x p) (e :: es) [] pos) (tCB r t) := by
  intro pins s σ H Q I h
  refine wpAny_Call_Name_kw (ld_blt I hg hm hv ?_ hn hdb)
  exact PyProof.Rows.callWith_type1 (thn (ha pos pins s σ H _ I h) fun us s1 zq => zq.elim fun vs H1 I1 r1 q1 => hc pins s1 σ H1 vs us Q I1 r1 q1) he hpl
end
end L2

namespace HT
open PySem PyProof.Rows

def lexLt : List Int → List Int → Bool
  | [], [] => false
  | [], _ :: _ => true
  | _ :: _, [] => false
  | x :: xs, y :: ys => if x = y then lexLt xs ys else decide (x < y)
section
open PySem.SeqAt
open PySem.AutoSeq1 (wpAny_loadPart')
open PySem.MeetsSeq PySem.MeetsSeq2 PySem.MeetsSeq3

end

section
variable {prog : Program} {w : World} {A : Around} {E : Value → Shared → Prop} {s : Shared}

def sIx (n d : Nat) : Option Int → Nat
  | none => d
  | some v => if v < 0 then (v + (n : Int)).toNat else min v.toNat n
end
end HT

namespace L2
open PySem PySem.Spec PyProof.Rows

abbrev TO := St → Hp → (Option Int → Hp → Prop) → Prop
def PO (X : Cx) (e : Option Expr) (t : TO) : Prop :=
  ∀ (pins : List (Addr × Obj)) (s : Shared) (σ : St) (H : Hp) (Q : Option Int → Hp → Prop), Inv X pins σ H s → t σ H Q →
    wpAny (model X.prog X.w) X.A (evalPart e X.env) (fun u s' => ∃ o H', Inv X pins σ H' s' ∧ IsPart u o ∧ Q o H') X.xe s
def tNoPart : TO := fun _ H Q => Q none H
def tPart (t : TE) : TO := fun σ H Q => t σ H fun x H1 => PtQ x H1 Q

section
variable {X : Cx} {e : Expr} {te : TE} {lo hi : Option Expr} {tl th : TO} {pos p2 : Pos}

theorem po_none : PO X none tNoPart := by
  intro pins s σ H Q I h
  rw [evalPart_none]
  exact wpAny_pure ⟨none, H, I, .none, h⟩
theorem po_some (h : PE X e te) : PO X (some e) (tPart te) := by
  intro pins s σ H Q I hw
  rw [evalPart_some]
  refine thn (h pins s σ H _ I hw) fun u s1 zq => zq.elim fun x H1 I1 r1 q1 => ?_
  obtain ⟨i, rfl, q⟩ := q1
  obtain ⟨t, rfl⟩ := r1
  exact ⟨some i, H1, I1, .int i t, q⟩

def SlR (X : Cx) (r : V → Option Int → Option Int → Hp → VK → Prop) : Prop :=
  ∀ (pins : List (Addr × Obj)) (s : Shared) (σ : St) (H : Hp) (x : V) (v vl vu : Value) (lo hi : Option Int) (sl : Addr) (Q : VK), Inv X pins σ H s → RelV x v → s.heap.IsSliceOf sl vl vu .none → IsPart vl lo → IsPart vu hi → r x lo hi H Q →
    ∃ T id, typeLookup (.type T) "__getitem__" = pure (some (.builtin id)) ∧ s.TypeIs v T ∧ wpAny (model X.prog X.w) X.A (getItem v (.ref sl)) (EP X pins σ Q) X.xe s
theorem SlR.or {r r' : V → Option Int → Option Int → Hp → VK → Prop} (h : SlR X r) (h' : SlR X r') : SlR X (fun x lo hi H Q => r x lo hi H Q ∨ r' x lo hi H Q) := by
  intro pins s σ H x v vl vu lo hi sl Q I rx hs pl pu q
  rcases q with q | q
  · exact h pins s σ H x v vl vu lo hi sl Q I rx hs pl pu q
  · exact h' pins s σ H x v vl vu lo hi sl Q I rx hs pl pu q
def tSl (r : V → Option Int → Option Int → Hp → VK → Prop) (te : TE) (tl th : TO) : TE := fun σ H Q => te σ H fun x H1 => tl σ H1 fun l H2 => th σ H2 fun u H3 => r x l u H3 Q
theorem pe_slice {r : V → Option Int → Option Int → Hp → VK → Prop} (hr : SlR X r) (he : PE X e te) (hl : PO X lo tl) (hu : PO X hi th) : PE X (.Subscript e (.Slice lo hi none p2) pos) (tSl r te tl th) := by
  intro pins s σ H Q I h
  refine Subscript_ (thn (he pins s σ H _ I h) fun v s1 zq => zq.elim fun x H1 I1 r1 q1 => ?_)
  refine wpAny_Slice (thn (hl pins s1 σ H1 _ I1 q1) fun vl s2 ⟨l, H2, I2, pl, q2⟩ => thn (hu pins s2 σ H2 _ I2 q2) fun vu s3 ⟨u, H3, I3, pu, q3⟩ => ?_)
  rw [evalPart_none]
  refine wpAny_pure ?_
  have I4 : Inv X pins σ H3 { s3 with heap := s3.heap.push { cls := .type "slice", data := .fields #[vl, vu, .none] } } := I3.kept (t' := s3.toks) fun b ob q => Heap.get?_push_of_some _ q
  obtain ⟨T, id, hT, ht, hg⟩ := hr pins { s3 with heap := s3.heap.push { cls := .type "slice", data := .fields #[vl, vu, .none] } } σ H3 x v vl vu l u s3.heap.objs.size Q I4 r1 (Heap.IsSliceOf.new ..) pl pu q3
  show wpAny (model X.prog X.w) X.A (subscriptTail e (.Slice lo hi none p2) v (.ref s3.heap.objs.size)) (EP X pins σ Q) X.xe { s3 with heap := s3.heap.push { cls := .type "slice", data := .fields #[vl, vu, .none] } }
  exact tail_any (ops := [.ref s3.heap.objs.size, v]) ht hT hg (by with_unfolding_all rfl)

def cutV (xs : List V) (lo hi : Option Int) : List V := (xs.drop (HT.sIx xs.length 0 lo)).take (HT.sIx xs.length xs.length hi - HT.sIx xs.length 0 lo)
inductive rSlTI (K : PySem.W.Frag) (x : V) (lo : Option Int) (hi : Option Int) (H : Hp) (Q : VK) : Prop
  | mk (a : _) (xs : _) (x0 : x = .ref a) (x1 : SqT K H a xs) (x2 : ¬ (HT.sIx xs.length 0 lo = 0 ∧ HT.sIx xs.length xs.length hi = xs.length)) (x3 : ∀ p, H p = none → Q (.ref p) (upd H p (.tup (cutV xs lo hi)))) : rSlTI K x lo hi H Q
inductive rLtTI (K : PySem.W.Frag) (x : V) (y : V) (H : Hp) (Q : VK) : Prop
  | mk (a : _) (b : _) (ns : _) (ms : _) (x0 : x = .ref a) (x1 : y = .ref b) (x2 : SqT K H a (ns.map V.int)) (x3 : SqT K H b (ms.map V.int)) (x4 : Q (.bl (HT.lexLt ns ms)) H) : rLtTI K x y H Q
inductive rCatTI (K : PySem.W.Frag) (x : V) (y : V) (H : Hp) (Q : VK) : Prop
  | mk (a : _) (b : _) (xs : _) (ys : _) (x0 : x = .ref a) (x1 : y = .ref b) (x2 : SqT K H a xs) (x3 : SqT K H b ys) (x4 : xs ≠ []) (x5 : xs.length + ys.length ≤ sizeLine) (x6 : (ys = [] → Q (.ref a) H)) (x7 : (ys ≠ [] → ∀ p, H p = none → Q (.ref p) (upd H p (.tup (xs ++ ys))))) : rCatTI K x y H Q
inductive r_call_tupleTI (K : PySem.W.Frag) (xs : List V) (H : Hp) (Q : VK) : Prop
  | mk (a : _) (ys : _) (h0_ : xs = [.ref a]) (h1_ : SqT K H a ys) (h2_ : Q (.ref a) H) : r_call_tupleTI K xs H Q
end
end L2

namespace L2
open PySem PySem.Spec PyProof.Rows

def ixN (n : Nat) (i : Int) : Option Nat := if 0 ≤ i then (if i < n then some i.toNat else none) else if -(n : Int) ≤ i then some (i + n).toNat else none
def atI {α : Type} (xs : List α) (i : Int) : Option α := (ixN xs.length i).bind fun j => xs[j]?
theorem ixN_seq {n : Nat} {i : Int} {j : Nat} (h : ixN n i = some j) : seqIndex? i n = some j ∧ j < n ∧ -(n : Int) ≤ i ∧ i < n := by
  unfold ixN at h
  by_cases h0 : 0 ≤ i
  · rw [if_pos h0] at h
    by_cases h1 : i < n
    · rw [if_pos h1] at h
      have e : i.toNat = j := Option.some.inj h
      exact ⟨by rw [seqIndex_of h0 h1, e], by omega, by omega, h1⟩
    · rw [if_neg h1] at h; cases h
  · rw [if_neg h0] at h
    by_cases h1 : -(n : Int) ≤ i
    · rw [if_pos h1] at h
      have e : (i + n).toNat = j := Option.some.inj h
      exact ⟨by rw [seqIndex_neg (by omega) h1, e], by omega, h1, by omega⟩
    · rw [if_neg h1] at h; cases h
theorem atI_get {α : Type} {xs : List α} {i : Int} {v : α} (h : atI xs i = some v) : ∃ j, seqIndex? i xs.length = some j ∧ xs[j]? = some v ∧ j < xs.length ∧ -(xs.length : Int) ≤ i ∧ i < xs.length := by
  unfold atI at h
  cases e : ixN xs.length i with
  | none => rw [e] at h; cases h
  | some j =>
    rw [e] at h
    obtain ⟨h1, h2, h3, h4⟩ := ixN_seq e
    exact ⟨j, h1, h, h2, h3, h4⟩
theorem atI_nat {α : Type} {xs : List α} {j : Nat} {v : α} (h : xs[j]? = some v) : atI xs (j : Int) = some v := by
  have hj : j < xs.length := (List.getElem?_eq_some_iff.mp h).1
  have e : ixN xs.length (j : Int) = some j := by
    unfold ixN
    rw [if_pos (by omega), if_pos (by omega)]; simp
  unfold atI; rw [e]; exact h
def PlainIx (b : Expr) : Prop := ∀ o i, subscripted b false o i = operate [o, i] (getItem o i)
def IxR (X : Cx) (r : R2) : Prop :=
  ∀ (value slice : Expr) (pins : List (Addr × Obj)) (s : Shared) (σ : St) (H : Hp) (x y : V) (v u : Value) (Q : VK), Inv X pins σ H s → RelV x v → RelV y u → r x y H Q →
    subscripted slice false v u = operate [v, u] (getItem v u) → wpAny (model X.prog X.w) X.A (subscriptTail value slice v u) (EP X pins σ Q) X.xe s
def MtR (X : Cx) (id : String) (r : V → List V → Hp → VK → Prop) : Prop :=
  ∀ (pins : List (Addr × Obj)) (s : Shared) (σ : St) (H : Hp) (x : V) (xs : List V) (v : Value) (us : List Value) (Q : VK), Inv X pins σ H s → RelV x v → Vals xs us → r x xs H Q →
    wpAny (model X.prog X.w) X.A (call (.builtin id) (v :: us)) (EP X pins σ Q) X.xe s
section
variable {X : Cx} {a b : Expr} {ta tb : TE} {pos : Pos}
theorem IxR.or {r r' : R2} (h : IxR X r) (h' : IxR X r') : IxR X (fun x y H Q => r x y H Q ∨ r' x y H Q) := by
  intro value slice pins s σ H x y v u Q I rx ry q hs
  rcases q with q | q
  · exact h value slice pins s σ H x y v u Q I rx ry q hs
  · exact h' value slice pins s σ H x y v u Q I rx ry q hs
theorem MtR.or {id : String} {r r' : V → List V → Hp → VK → Prop} (h : MtR X id r) (h' : MtR X id r') : MtR X id (fun x xs H Q => r x xs H Q ∨ r' x xs H Q) := by
  intro pins s σ H x xs v us Q I rx rs q
  rcases q with q | q
  · exact h pins s σ H x xs v us Q I rx rs q
  · exact h' pins s σ H x xs v us Q I rx rs q
theorem pe_ix {r : R2} (hr : IxR X r) (ha : PE X a ta) (hb : PE X b tb) (hs : PlainIx b) : PE X (.Subscript a b pos) (tOp r ta tb) := by
  intro pins s σ H Q I h
  exact Subscript_ (binT ha hb I h fun v u s2 x y H2 I2 rx ry q => hr a b pins s2 σ H2 x y v u Q I2 rx ry q (hs _ _))

inductive rIxLI (K : PySem.W.Frag) (x : V) (y : V) (H : Hp) (Q : VK) : Prop
  | mk (p : _) (xs : _) (i : _) (v : _) (x0 : x = .ref p) (x1 : y = .int i) (x2 : SqL K H p xs) (x3 : atI xs i = some v) (x4 : Q v H) : rIxLI K x y H Q
def rIxL (K : PySem.W.Frag) : R2 := fun x y H Q => rIxLI K x y H Q
inductive rIxTI (K : PySem.W.Frag) (x : V) (y : V) (H : Hp) (Q : VK) : Prop
  | mk (p : _) (xs : _) (i : _) (v : _) (x0 : x = .ref p) (x1 : y = .int i) (x2 : SqT K H p xs) (x3 : atI xs i = some v) (x4 : Q v H) : rIxTI K x y H Q
inductive rIxSI (x : V) (y : V) (H : Hp) (Q : VK) : Prop
  | mk (z : _) (i : _) (c : _) (x0 : x = .str z) (x1 : y = .int i) (x2 : z.length ≤ sizeLine) (x3 : atI z.cps.toList i = some c) (x4 : Q (.str ⟨#[c]⟩) H) : rIxSI  x y H Q
def rIxS : R2 := fun x y H Q => rIxSI  x y H Q
theorem ix_list : IxR X (rIxL X.K) := by
  intro value slice pins s σ H x y v u Q I rx ry h hs
  obtain ⟨p, xs, i, z, rfl, rfl, hq, he, q⟩ := h
  cases rx
  obtain ⟨t, rfl⟩ := ry
  obtain ⟨its, r, pl, hz⟩ := I.list hq
  obtain ⟨j, h1, h2, h3, h4, h5⟩ := atI_get he
  obtain ⟨w, ew, rw'⟩ := r.get h2
  have hl := r.length
  have hn := line63
  have fin : EP X pins σ Q w s := ⟨z, H, I, rw', q⟩
  by_cases h0 : 0 ≤ i
  · have hj : i.toNat = j := by
      rw [seqIndex_of h0 h5] at h1
      exact Option.some.inj h1
    exact item_listR pl.isList h0 (by omega) (by rw [hj]; simpa using ew) fin hs
  · have hj : (i + (its.toArray.size : Int)).toNat = j := by
      rw [seqIndex_neg (by omega) h4] at h1
      rw [List.size_toArray, ← hl]
      exact Option.some.inj h1
    exact subscriptTail_builtinR (x := w) pl.isList.typeIs slot_list_getitem.lookup
      (wpAny_getItem_list_neg (Q := fun r s' => r = w ∧ EP X pins σ Q r s') pl.isList (by omega) (by rw [List.size_toArray] <;> omega) (by omega) (by rw [hj]; simpa using ew) ⟨rfl, fin⟩) hs
theorem ix_str : IxR X rIxS := by
  intro value slice pins s σ H x y v u Q I rx ry h hs
  obtain ⟨z, i, c, rfl, rfl, hz, he, q⟩ := h
  obtain ⟨t, rfl⟩ := rx
  obtain ⟨t', rfl⟩ := ry
  obtain ⟨j, h1, h2, h3, h4, h5⟩ := atI_get he
  have hl : z.cps.toList.length = z.length := by simp [Str.length]
  rw [hl] at h1 h4 h5
  have hn := line63
  exact tail_any (typeIs_str s z t) slot_str_getitem.lookup (getItem_str (c := c) (by
    have e1 : decide (i < -(2 ^ 63 : Int)) = false := decide_eq_false (by omega)
    have e2 : decide (i ≥ 2 ^ 63) = false := decide_eq_false (by omega)
    rw [e1, e2, Bool.or_false]) (by rw [h1]; simpa using h2) ⟨.str ⟨#[c]⟩, H, I.tok _, ⟨_, rfl⟩, q⟩) hs
theorem Inv.lst {pins : List (Addr × Obj)} {σ : St} {H : Hp} {s : Shared} {p : Addr} {xs : List V} (I : Inv X pins σ H s) (h : H p = some (.lst xs)) :
    ∃ (its : List Value) (n : Nat), Vals xs its ∧ s.heap.get? p = some { cls := .type "list", data := .seq its.toArray n } ∧ xs.length ≤ sizeLine := by
  obtain ⟨z, its, n, r, e⟩ := I.hok p _ h
  exact ⟨its, n, r, e, z⟩
inductive rSetLI (o : V) (i : V) (v : V) (H : Hp) (Q : (Hp → Prop)) : Prop
  | mk (p : _) (xs : _) (k : _) (j : _) (x0 : o = .ref p) (x1 : i = .int k) (x2 : H p = some (.lst xs)) (x3 : ixN xs.length k = some j) (x4 : Q (upd H p (.lst (xs.set j v)))) : rSetLI  o i v H Q
inductive rSlLI (K : PySem.W.Frag) (x : V) (lo : Option Int) (hi : Option Int) (H : Hp) (Q : VK) : Prop
  | mk (a : _) (xs : _) (x0 : x = .ref a) (x1 : SqL K H a xs) (x2 : ∀ p, H p = none → Q (.ref p) (upd H p (.lst (cutV xs lo hi)))) : rSlLI K x lo hi H Q
def flatV : V → Bool
  | .non => true
  | .bl _ => true
  | .int _ => true
  | .str _ => true
  | _ => false
def eqV : V → V → Bool
  | .non, .non => true
  | .bl a, .bl b => a == b
  | .bl a, .int b => (if a then 1 else 0) == b
  | .int a, .bl b => a == (if b then 1 else 0)
  | .int a, .int b => a == b
  | .str a, .str b => a == b
  | _, _ => false
theorem eqAt_V {A : Around} {s : Shared} {y x : V} {u v : Value} (ry : RelV y u) (rx : RelV x v) (fy : flatV y = true) (fx : flatV x = true) : SeqAt.EqAt A s u v (eqV y x) := by
  cases y with
  | non =>
    cases ry
    cases x with
    | non => cases rx; exact SeqAt.EqAt.same _
    | bl b => cases rx; exact SeqAt.EqAt.none_bool b
    | int b => obtain ⟨t, rfl⟩ := rx; exact SeqAt.EqAt.none_int b t
    | str b => obtain ⟨t, rfl⟩ := rx; exact SeqAt.EqAt.none_str b t
    | _ => exact absurd (show false = true from fx) Bool.false_ne_true
  | bl a =>
    cases ry
    cases x with
    | non => cases rx; exact SeqAt.EqAt.bool_none a
    | bl b => cases rx; exact SeqAt.EqAt.bool_bool a b
    | int b => obtain ⟨t, rfl⟩ := rx; exact SeqAt.EqAt.bool_int a b t
    | str b => obtain ⟨t, rfl⟩ := rx; exact SeqAt.EqAt.bool_str a b t
    | _ => exact absurd (show false = true from fx) Bool.false_ne_true
  | int a =>
    obtain ⟨t', rfl⟩ := ry
    cases x with
    | non => cases rx; exact SeqAt.EqAt.int_none a t'
    | bl b => cases rx; exact SeqAt.EqAt.int_bool a t' b
    | int b => obtain ⟨t, rfl⟩ := rx; exact SeqAt.EqAt.int_int a t' b t
    | str b => obtain ⟨t, rfl⟩ := rx; exact SeqAt.EqAt.int_str a t' b t
    | _ => exact absurd (show false = true from fx) Bool.false_ne_true
  | str a =>
    obtain ⟨t', rfl⟩ := ry
    cases x with
    | non => cases rx; exact SeqAt.EqAt.str_none a t'
    | bl b => cases rx; exact SeqAt.EqAt.str_bool a t' b
    | int b => obtain ⟨t, rfl⟩ := rx; exact SeqAt.EqAt.str_int a t' b t
    | str b => obtain ⟨t, rfl⟩ := rx; exact SeqAt.EqAt.str_str a t' b t
    | _ => exact absurd (show false = true from fx) Bool.false_ne_true
  | _ => exact absurd (show false = true from fy) Bool.false_ne_true
def inV (x : V) (xs : List V) : Bool := xs.any fun y => eqV y x
inductive rInI (K : PySem.W.Frag) (neg : Bool) (x : V) (y : V) (H : Hp) (Q : VK) : Prop
  | mk (p : _) (xs : _) (x0 : y = .ref p) (x1 : (SqL K H p xs ∨ SqT K H p xs)) (x2 : flatV x = true) (x3 : xs.all flatV = true) (x4 : Q (.bl (if neg then !inV x xs else inV x xs)) H) : rInI K neg x y H Q
inductive r_op_notIn_strI (x : V) (y : V) (H : Hp) (Q : VK) : Prop
  | mk (i : _) (j : _) (h0_ : x = .str i) (h1_ : y = .str j) (h2_ : Q (.bl (!(!(Builtin.Str.occurrences j i 0 j.length 1).isEmpty))) H) : r_op_notIn_strI x y H Q
inductive r_call_len_seqI (K : PySem.W.Frag) (xs : List V) (H : Hp) (Q : VK) : Prop
  | mk (p : _) (ys : _) (h0_ : xs = [.ref p]) (h1_ : (SqL K H p ys ∨ SqT K H p ys)) (h2_ : Q (.int ys.length) H) : r_call_len_seqI K xs H Q
def r_call_len_seq (K : PySem.W.Frag) : List V → Hp → VK → Prop := fun xs H Q => r_call_len_seqI K xs H Q
theorem call_len_seq : CallR X (.builtin "len") (r_call_len_seq X.K) := by
  intro pins s σ H xs us Q I r h
  obtain ⟨p, ys, rfl, hq, q⟩ := h
  obtain ⟨u, rfl, rx⟩ := vals1 r
  cases rx
  have hn := line63
  rcases hq with hq | hq
  · obtain ⟨its, r', pl, hz⟩ := I.list hq
    have hlen := r'.length
    exact Calls.call_len_list pl.isList (by simp only [List.size_toArray] <;> omega) ⟨.int ys.length, H, I.tok _, ⟨s.toks + 1, by rw [List.size_toArray, hlen]⟩, q⟩
  · obtain ⟨its, r', pl, hz⟩ := I.tuple hq
    have hlen := r'.length
    exact len_tuple pl (by simp only [List.size_toArray] <;> omega) ⟨.int ys.length, H, I.tok _, ⟨s.toks + 1, by rw [List.size_toArray, hlen]⟩, q⟩
inductive r_call_len_strI (xs : List V) (H : Hp) (Q : VK) : Prop
  | mk (z : _) (h0_ : xs = [.str z]) (h1_ : z.length ≤ sizeLine) (h2_ : Q (.int z.length) H) : r_call_len_strI xs H Q
def r_call_len_str : List V → Hp → VK → Prop := fun xs H Q => r_call_len_strI xs H Q
theorem call_len_str : CallR X (.builtin "len") r_call_len_str := by
  intro pins s σ H xs us Q I r h
  obtain ⟨z, rfl, hz, q⟩ := h
  obtain ⟨u, rfl, t, rfl⟩ := vals1 r
  have hn := line63
  exact len_str (by omega) ⟨.int z.length, H, I.tok _, ⟨_, rfl⟩, q⟩
theorem CallR.or {f : Value} {r r' : List V → Hp → VK → Prop} (h : CallR X f r) (h' : CallR X f r') : CallR X f (fun xs H Q => r xs H Q ∨ r' xs H Q) := by
  intro pins s σ H xs us Q I rs q
  rcases q with q | q
  · exact h pins s σ H xs us Q I rs q
  · exact h' pins s σ H xs us Q I rs q
inductive r_call_list_ofI (K : PySem.W.Frag) (xs : List V) (H : Hp) (Q : VK) : Prop
  | mk (p : _) (ys : _) (h0_ : xs = [.ref p]) (h1_ : (SqL K H p ys ∨ SqT K H p ys)) (h2_ : ∀ l, H l = none → Q (.ref l) (upd H l (.lst ys))) : r_call_list_ofI K xs H Q
inductive r_call_tuple_ofI (K : PySem.W.Frag) (xs : List V) (H : Hp) (Q : VK) : Prop
  | mk (p : _) (ys : _) (h0_ : xs = [.ref p]) (h1_ : ((SqL K H p ys ∧ ∀ l, H l = none → Q (.ref l) (upd H l (.tup ys))) ∨ (SqT K H p ys ∧ Q (.ref p) H))) : r_call_tuple_ofI K xs H Q
def tyV (K : PySem.W.Frag) (T : String) (x : V) (H : Hp) : Prop := match x with
  | .str _ => T = "str"
  | .int _ => T = "int"
  | .ref p => (T = "list" ∧ ∃ xs, SqL K H p xs) ∨ (T = "tuple" ∧ ∃ o, K.lookup p = some o ∧ o.cls = .type "tuple" ∧ o.dict = none) ∨
      (T = "dict" ∧ ((∃ kvs, H p = some (.dK kvs)) ∨ ∃ kvs, H p = some (.dT kvs))) ∨ (T = "set" ∧ ∃ S n, H p = some (.set S n))
  | _ => False
theorem tyV_is {pins : List (Addr × Obj)} {σ : St} {H : Hp} {s : Shared} {T : String} {x : V} {v : Value} (I : Inv X pins σ H s) (r : RelV x v) (ty : tyV X.K T x H) :
    s.TypeIs v T ∧ ∀ a, v = .ref a → ∃ ob, s.heap.get? a = some ob ∧ ob.dict = none := by
  cases x with
  | str z =>
    obtain ⟨t, rfl⟩ := r
    cases (show T = "str" from ty)
    exact ⟨typeIs_str s z t, fun _ e => nomatch e⟩
  | int i =>
    obtain ⟨t, rfl⟩ := r
    cases (show T = "int" from ty)
    exact ⟨typeIs_int s i t, fun _ e => nomatch e⟩
  | ref p =>
    cases r
    rcases ty with ⟨rfl, xs, hq⟩ | ⟨rfl, o, hk, hc, hd⟩ | ⟨rfl, hk⟩ | ⟨rfl, S, n, hk⟩
    · obtain ⟨its, _, pl, _⟩ := I.list hq
      refine ⟨pl.isList.typeIs, fun a e => ?_⟩
      cases e
      obtain ⟨o, n, e, c, hd, _⟩ := pl
      exact ⟨o, e, hd⟩
    · refine ⟨⟨o, I.kIn p o hk, hc⟩, fun a e => ?_⟩
      cases e
      exact ⟨o, I.kIn _ o hk, hd⟩
    · have z : ∃ o, s.heap.get? p = some o ∧ o.ExactDict := by
        rcases hk with ⟨kvs, hk⟩ | ⟨kvs, hk⟩
        · obtain ⟨_, _, _, _, o, _, _, e, ex, _⟩ := I.hok p _ hk
          exact ⟨o, e, ex⟩
        · obtain ⟨_, _, _, _, o, _, _, e, ex, _⟩ := I.hok p _ hk
          exact ⟨o, e, ex⟩
      obtain ⟨o, e, ex⟩ := z
      refine ⟨⟨o, e, ex.1⟩, fun a e2 => ?_⟩
      cases e2
      exact ⟨o, e, ex.2.1⟩
    · obtain ⟨o, _, _, _, e, ex, _⟩ := I.hok p _ hk
      refine ⟨⟨o, e, ex.1⟩, fun a e2 => ?_⟩
      cases e2
      exact ⟨o, e, ex.2.1⟩
  | _ => exact False.elim ty
def tBM0 (K : PySem.W.Frag) (T : String) (r : V → List V → Hp → VK → Prop) (to : TE) : TE := fun σ H Q => to σ H fun x H1 => tyV K T x H1 ∧ r x [] H1 Q
def tBM (K : PySem.W.Frag) (T : String) (r : V → List V → Hp → VK → Prop) (to : TE) (t : TA) : TE := fun σ H Q => to σ H fun x H1 => tyV K T x H1 ∧ t σ H1 fun xs H2 => r x xs H2 Q
variable {o e : Expr} {es : List Expr} {to : TE} {t : TA} {name : Str} {apos cpos : Pos} {T id : String} {r : V → List V → Hp → VK → Prop}
theorem pe_bm0 (pa : PlainAttrs T) (slot : Slot T name id) (hty : typeOf (.builtin id) = pure (.type "method_descriptor")) (hm : MtR X id r) (ho : PE X o to)
    (hbase : attributeBase o name X.env (eval o X.env) = eval o X.env := by rfl) (hline : (apos.endLine == cpos.line) = true := by rfl) : PE X (.Call (.Attribute o name apos) [] [] cpos) (tBM0 X.K T r to) := by
  intro pins s σ H Q I h
  refine wpAny_Call_method0_late hbase hline (thn (ho pins s σ H _ I h) fun v s1 ⟨x, H1, I1, r1, ty, q1⟩ => ?_)
  obtain ⟨h1, h2⟩ := tyV_is I1 r1 ty
  exact ⟨T, id, pa, slot, hty, h1, h2, Calls.callWith_builtin rfl (PySem.evalArgs_none (hm pins s1 σ H1 x [] v [] Q I1 r1 .nil q1))⟩
theorem pe_bm (pa : PlainAttrs T) (slot : Slot T name id) (hty : typeOf (.builtin id) = pure (.type "method_descriptor")) (hm : MtR X id r) (ho : PE X o to) (ha : PA X (e :: es) t)
    (hbase : attributeBase o name X.env (eval o X.env) = eval o X.env := by rfl)
    (hfew : ((backTo cpos (starEach (e :: es) X.env)).all (fun x => !x.1) && (backToKw cpos (keywordEach [] X.env)).all (fun x => x.1.isSome)
      && decide ((e :: es).length + ([] : List Keyword).length + (if ([] : List Keyword).isEmpty then 0 else 1) < 30)) = true := by rfl)
    (hline : (apos.endLine == cpos.line) = true := by rfl) (hs : starEach (e :: es) X.env = (false, eval e X.env) :: starEach es X.env := by rfl) (hplain : (backTo cpos (starEach es X.env)).any (·.1) = false := by rfl) :
    PE X (.Call (.Attribute o name apos) (e :: es) [] cpos) (tBM X.K T r to t) := by
  intro pins s σ H Q I h
  refine wpAny_Call_method_late hbase hfew hline rfl (thn (ho pins s σ H _ I h) fun v s1 ⟨x, H1, I1, r1, ty, q1⟩ => ?_)
  obtain ⟨h1, h2⟩ := tyV_is I1 r1 ty
  refine ⟨T, id, pa, slot, hty, h1, h2, ?_⟩
  have hA := ha cpos pins s1 σ H1 _ I1 q1
  rw [hs] at hA ⊢
  refine Calls.callWith_builtin (by show (false || (backTo cpos (starEach es X.env)).any (·.1)) = false; rw [hplain] <;> rfl) (Calls.evalArgs_plain ?_)
  exact thn hA fun us s2 zq => zq.elim fun vs H2 I2 r2 q2 => hm pins s2 σ H2 x vs v us Q I2 r1 r2 q2
/- xs.append(e), list.index on a module's tuple .. are MtR facts of 06m -/
end
end L2

namespace L2
open PySem PySem.Spec PyProof.Rows

def MtM (X : Cx) (id : String) (r : V → List V → Hp → VK → Prop) : Prop :=
  ∀ (pins : List (Addr × Obj)) (s : Shared) (σ : St) (H : Hp) (x : V) (xs : List V) (v : Value) (us : List Value) (Q : VK), Inv X pins σ H s → RelV x v → Vals xs us → r x xs H Q →
    wpAny (model X.prog X.w) X.A (call (.builtin id) (v :: us)) (EP X pins σ Q) X.xe s

theorem Vals.zero {us : List Value} (r : Vals [] us) : us = [] := List.eq_nil_of_length_eq_zero (Paired.length r).symm
theorem Vals.one {x : V} {us : List Value} (r : Vals [x] us) : ∃ u, us = [u] ∧ RelV x u := by
  obtain ⟨u, ur, rfl, h, t⟩ := r.inv
  rw [t.zero]
  exact ⟨u, rfl, h⟩
theorem Vals.two {x y : V} {us : List Value} (r : Vals [x, y] us) : ∃ u v, us = [u, v] ∧ RelV x u ∧ RelV y v := by
  obtain ⟨u, ur, rfl, h, t⟩ := r.inv
  obtain ⟨v, rfl, h2⟩ := t.one
  exact ⟨u, v, rfl, h, h2⟩
theorem Vals.dropLast {xs : List V} {us : List Value} (h : Vals xs us) : Vals xs.dropLast us.dropLast := by
  induction h with
  | nil => exact .nil
  | cons r t ih =>
    cases t with
    | nil => exact .nil
    | cons q t' => exact .cons r ih
theorem Vals.eraseIdx : ∀ {xs : List V} {us : List Value} (i : Nat), Vals xs us → Vals (xs.eraseIdx i) (us.eraseIdx i)
  | _, _, _, .nil => .nil
  | _, _, 0, .cons _ t => t
  | _, _, i + 1, .cons r t => .cons r (Vals.eraseIdx i t)
theorem Vals.reverse {xs : List V} {us : List Value} (h : Vals xs us) : Vals xs.reverse us.reverse := by
  induction h with
  | nil => exact .nil
  | cons r t ih => rw [List.reverse_cons, List.reverse_cons]; exact Vals.append ih (.cons r .nil)
theorem erase_last {α : Type} (l : List α) : l.eraseIdx (l.length - 1) = l.dropLast := List.eraseIdx_length_sub_one
section
variable {X : Cx} {pins : List (Addr × Obj)} {σ : St} {H : Hp} {s : Shared} {l b : Addr} {xs ys zs : List V}

theorem Inv.lset {its its' : List Value} {n : Nat} {f : Array Value → Array Value} {t' : Nat} (I : Inv X pins σ H s) (hH : H l = some (.lst xs))
    (e : s.heap.get? l = some { cls := .type "list", data := .seq its.toArray n }) (hf : f its.toArray = its'.toArray) (hv : Vals ys its') (hz : ys.length ≤ sizeLine) :
    Inv X pins σ (upd H l (.lst ys)) { s with heap := s.heap.update l (Obj.mapSeq f), toks := t' } := by
  have q := PySem.IsL.update e f
  rw [hf] at q
  refine I.write (x := l) (e := l) (by rw [hH]; exact trivial) (.inl rfl) (fun b' u hb hu => (Heap.get?_update_other s.heap (Obj.mapSeq f) (Ne.symm hb)).trans hu) ⟨_, q⟩ ?_
  exact ⟨hz, its', _, hv, q⟩
theorem Inv.lnew {its : List Value} {t' : Nat} (I : Inv X pins σ H s) (hv : Vals ys its) (hz : ys.length ≤ sizeLine) :
    Inv X pins σ (upd H s.heap.objs.size (.lst ys)) { s with heap := s.heap.push { cls := .type "list", data := .seq its.toArray }, toks := t' } :=
  I.laid (fun _ _ q => Heap.get?_push_of_some _ q) (Nat.le_refl _) ⟨hz, its, 0, hv, Heap.get?_push_size _ rfl⟩
theorem Inv.fresh (I : Inv X pins σ H s) : H s.heap.objs.size = none := I.hok.fresh (Nat.le_refl _)
theorem Inv.lstM (I : Inv X pins σ H s) (hH : H l = some (.lst xs)) : xs.length ≤ sizeLine ∧ ∃ (its : List Value) (n : Nat), Vals xs its ∧ xs.length = its.length ∧ s.heap.get? l = some { cls := .type "list", data := .seq its.toArray n } := by
  obtain ⟨z, its, n, r, e⟩ := I.hok l _ hH
  exact ⟨z, its, n, r, r.length, e⟩

theorem notLongL {n : Nat} (h : n ≤ sizeLine) : Builtin.List.listTooLong n = false := by
  unfold Builtin.List.listTooLong
  exact decide_eq_false (by omega)
end

section
variable {X : Cx}

inductive rAppendI (x : V) (vs : List V) (H : Hp) (Q : VK) : Prop
  | mk (l : _) (xs : _) (y : _) (x0 : x = .ref l) (x1 : vs = [y]) (x2 : H l = some (.lst xs)) (x3 : xs.length < sizeLine) (x4 : Q .non (upd H l (.lst (xs ++ [y])))) : rAppendI  x vs H Q
def rAppend : V → List V → Hp → VK → Prop := fun x vs H Q => rAppendI  x vs H Q
theorem mt_append : MtM X "list.append" rAppend := by
  intro pins s σ H x vs v us Q I rx rv h
  obtain ⟨l, xs, y, rfl, rfl, hH, hz, q⟩ := h
  cases rx
  obtain ⟨u, rfl, ru⟩ := rv.one
  obtain ⟨z, its, n, r, hl, e⟩ := I.lstM hH
  refine call_meets F.slot_list_append ⟨_, e, rfl⟩ F.entry_list_append (F.args_list_append_2 _ _) (PySem.list_append l its.toArray n u (by rw [List.size_toArray]; omega)) ⟨e, ?_⟩
  refine ⟨.non, _, I.lset (its' := its ++ [u]) hH e (by simp) (r.append (.cons ru .nil)) ?_, rfl, q⟩
  rw [List.length_append, List.length_singleton]
  omega

inductive rExtendI (x : V) (vs : List V) (H : Hp) (Q : VK) : Prop
  | mk (l : _) (b : _) (xs : _) (zs : _) (x0 : x = .ref l) (x1 : vs = [.ref b]) (x2 : H l = some (.lst xs)) (x3 : H b = some (.lst zs)) (x4 : xs.length + zs.length ≤ sizeLine) (x5 : Q .non (upd H l (.lst (xs ++ zs)))) : rExtendI  x vs H Q
def rExtend : V → List V → Hp → VK → Prop := fun x vs H Q => rExtendI  x vs H Q
theorem mt_extend : MtM X "list.extend" rExtend := by
  intro pins s σ H x vs v us Q I rx rv h
  obtain ⟨l, b, xs, zs, rfl, rfl, hH, hB, hz, q⟩ := h
  cases rx
  obtain ⟨u, rfl, ru⟩ := rv.one
  cases ru
  obtain ⟨z, its, n, r, hl, e⟩ := I.lstM hH
  obtain ⟨z2, its2, n2, r2, hl2, e2⟩ := I.lstM hB
  have hsz : its.toArray.size + its2.toArray.size ≤ sizeLine := by rw [List.size_toArray, List.size_toArray]; omega
  have hlong : ¬ (!its.toArray.isEmpty && Builtin.List.listTooLong (its.toArray.size + its2.toArray.size)) = true := by
    rw [notLongL hsz, Bool.and_false]
    exact Bool.false_ne_true
  refine call_meets F.slot_list_extend ⟨_, e, rfl⟩ F.entry_list_extend (F.args_list_extend_2 _ _)
    (AutoSeq1.list_extend_list_list_0 l its.toArray n b its2.toArray n2 hlong (by rw [List.size_toArray]; omega) (by omega)) ⟨e, e2, ?_⟩
  refine ⟨.non, _, I.lset (its' := its ++ its2) hH e (by simp) (r.append r2) ?_, rfl, q⟩
  rw [List.length_append]
  omega

inductive rPopI (x : V) (vs : List V) (H : Hp) (Q : VK) : Prop
  | mk (l : _) (xs : _) (y : _) (x0 : x = .ref l) (x1 : vs = []) (x2 : H l = some (.lst xs)) (x3 : xs[xs.length - 1]? = some y) (x4 : Q y (upd H l (.lst xs.dropLast))) : rPopI  x vs H Q
def rPop : V → List V → Hp → VK → Prop := fun x vs H Q => rPopI  x vs H Q
theorem mt_pop : MtM X "list.pop" rPop := by
  intro pins s σ H x vs v us Q I rx rv h
  obtain ⟨l, xs, y, rfl, rfl, hH, hy, q⟩ := h
  cases rx
  have hus := rv.zero
  subst hus
  obtain ⟨z, its, n, r, hl, e⟩ := I.lstM hH
  obtain ⟨u, hu, ru⟩ := r.get hy
  have hy' : its.toArray[its.toArray.size - 1]? = some u := by
    show its.toArray[its.length - 1]? = some u
    rw [← Array.getElem?_toList, ← hl]
    exact hu
  refine call_meets F.slot_list_pop ⟨_, e, rfl⟩ F.entry_list_pop (F.args_list_pop_1 _) (MeetsSeq.list_pop_last l its.toArray n u hy' (by rw [List.size_toArray]; omega)) ⟨e, ?_⟩
  refine ⟨y, _, I.lset (its' := its.dropLast) hH e ?_ r.dropLast ?_, ru, q⟩
  · show its.toArray.eraseIdxIfInBounds (its.toArray.size - 1) = its.dropLast.toArray
    rw [List.size_toArray, List.eraseIdxIfInBounds_toArray, erase_last]
  · rw [List.length_dropLast]
    omega

inductive rPopAtI (x : V) (vs : List V) (H : Hp) (Q : VK) : Prop
  | mk (l : _) (xs : _) (i : _) (k : _) (y : _) (x0 : x = .ref l) (x1 : vs = [.int i]) (x2 : H l = some (.lst xs)) (x3 : -(2 ^ 63) ≤ i) (x4 : i < 2 ^ 63) (x5 : seqIndex? i xs.length = some k) (x6 : xs[k]? = some y) (x7 : Q y (upd H l (.lst (xs.eraseIdx k)))) : rPopAtI  x vs H Q
inductive rReverseI (x : V) (vs : List V) (H : Hp) (Q : VK) : Prop
  | mk (l : _) (xs : _) (x0 : x = .ref l) (x1 : vs = []) (x2 : H l = some (.lst xs)) (x3 : Q .non (upd H l (.lst xs.reverse))) : rReverseI  x vs H Q
inductive rClearI (x : V) (vs : List V) (H : Hp) (Q : VK) : Prop
  | mk (l : _) (xs : _) (x0 : x = .ref l) (x1 : vs = []) (x2 : H l = some (.lst xs)) (x3 : Q .non (upd H l (.lst []))) : rClearI  x vs H Q
inductive rCatI (x : V) (y : V) (H : Hp) (Q : VK) : Prop
  | mk (l : _) (b : _) (xs : _) (zs : _) (x0 : x = .ref l) (x1 : y = .ref b) (x2 : H l = some (.lst xs)) (x3 : H b = some (.lst zs)) (x4 : xs.length + zs.length ≤ sizeLine) (x5 : ∀ p, H p = none → Q (.ref p) (upd H p (.lst (xs ++ zs)))) : rCatI  x y H Q
def rCat : R2 := fun x y H Q => rCatI  x y H Q
theorem op_cat : OpR X (binaryOp .Add) rCat := by
  intro pins s σ H x y v u Q I rx ry h
  obtain ⟨l, b, xs, zs, rfl, rfl, hH, hB, hz, q⟩ := h
  cases rx
  cases ry
  obtain ⟨z, its, n, r, hl, e⟩ := I.lstM hH
  obtain ⟨z2, its2, n2, r2, hl2, e2⟩ := I.lstM hB
  refine PySem.P.add_list e e2 ?_ (by rw [List.size_toArray, List.size_toArray]; omega)
  have ea : its.toArray ++ its2.toArray = (its ++ its2).toArray := by simp
  rw [ea]
  exact ⟨.ref _, _, I.lnew (t' := s.toks) (r.append r2) (by rw [List.length_append]; omega), rfl, q _ I.fresh⟩
inductive rRepI (x : V) (y : V) (H : Hp) (Q : VK) : Prop
  | mk (l : _) (k : _) (xs : _) (x0 : x = .ref l) (x1 : y = .int k) (x2 : H l = some (.lst xs)) (x3 : -(2 ^ 63) ≤ k) (x4 : k < 2 ^ 63) (x5 : xs.length * k.toNat ≤ sizeLine) (x6 : ∀ p, H p = none → Q (.ref p) (upd H p (.lst (List.replicate k.toNat xs).flatten))) : rRepI  x y H Q
end

section
variable {prog : Program} {w : World} {A : Around} {E : Value → Shared → Prop} {s : Shared}
end

section
variable {X : Cx}
end
end L2

namespace L2
open PySem PySem.Spec PyProof.Rows

section
variable {κ : Type} [DecidableEq κ]
def valV (kvs : List (κ × V)) (k : κ) : Option V := (kvs.find? fun kv => decide (kv.1 = k)).map (·.2)
def putK (kvs : List (κ × V)) (k : κ) (v : V) : List (κ × V) :=
  if (kvs.any fun kv => decide (kv.1 = k)) = true then kvs.map (fun kv => if kv.1 = k then (kv.1, v) else kv) else kvs ++ [(k, v)]
def dropK (kvs : List (κ × V)) (k : κ) : List (κ × V) := kvs.filter fun kv => decide (kv.1 ≠ k)

theorem valV_nil {k : κ} : valV ([] : List (κ × V)) k = none := rfl
theorem valV_pos {p : κ × V} {r : List (κ × V)} {k : κ} (e : p.1 = k) : valV (p :: r) k = some p.2 := by simp [valV, List.find?_cons, e]
theorem valV_neg {p : κ × V} {r : List (κ × V)} {k : κ} (e : ¬ p.1 = k) : valV (p :: r) k = valV r k := by simp [valV, List.find?_cons, e]
theorem valV_any (k : κ) : ∀ kvs : List (κ × V), (kvs.any fun kv => decide (kv.1 = k)) = (valV kvs k).isSome
  | [] => rfl
  | p :: r => by
    rw [List.any_cons]
    by_cases e : p.1 = k
    · simp only [valV_pos e, decide_eq_true e, Bool.true_or, Option.isSome_some]
    · rw [valV_neg e, decide_eq_false e, Bool.false_or]; exact valV_any k r
theorem length_putK (kvs : List (κ × V)) (k : κ) (v : V) : (putK kvs k v).length ≤ kvs.length + 1 := by
  unfold putK
  split
  · rw [List.length_map]; omega
  · rw [List.length_append, List.length_cons, List.length_nil]; omega
theorem putK_new {kvs : List (κ × V)} {k : κ} (v : V) (h : valV kvs k = none) : putK kvs k v = kvs ++ [(k, v)] := by
  unfold putK
  rw [valV_any, h]
  exact if_neg (by decide)

theorem RelO.isSome_eq {o : Option V} {u : Option Value} (r : RelO o u) : o.isSome = u.isSome := by
  cases o with
  | none => cases u with
    | none => rfl
    | some _ => exact (show False from r).elim
  | some _ => cases u with
    | none => exact (show False from r).elim
    | some _ => rfl
theorem RelO.getD {o : Option V} {u : Option Value} {d : V} {d' : Value} (r : RelO o u) (rd : RelV d d') : RelV (o.getD d) (u.getD d') := by
  cases o with
  | none => cases u with
    | none => exact rd
    | some _ => exact (show False from r).elim
  | some _ => cases u with
    | none => exact (show False from r).elim
    | some _ => exact r

theorem KV.val {kvs : List (κ × V)} {vs : List (κ × Value)} (r : KV kvs vs) (k : κ) : RelO (valV kvs k) (valueAt vs k) := by
  unfold KV at r
  induction r with
  | nil => exact True.intro
  | @cons p q ps qs h t ih =>
    obtain ⟨h1, h2⟩ := h
    by_cases e : p.1 = k
    · have e' : q.1 = k := h1.symm.trans e
      have b : valueAt (q :: qs) k = some q.2 := by simp [valueAt, List.find?_cons, e']
      rw [valV_pos e, b]; exact h2
    · have e' : ¬ q.1 = k := fun z => e (h1.trans z)
      have b : valueAt (q :: qs) k = valueAt qs k := by simp [valueAt, List.find?_cons, e']
      rw [valV_neg e, b]; exact ih
theorem KV.any {kvs : List (κ × V)} {vs : List (κ × Value)} (r : KV kvs vs) (k : κ) : (kvs.any fun kv => decide (kv.1 = k)) = vs.any fun kv => decide (kv.1 = k) := by
  unfold KV at r
  induction r with
  | nil => rfl
  | cons h t ih => rw [List.any_cons, List.any_cons, ih, h.1]
theorem KV.repl {kvs : List (κ × V)} {vs : List (κ × Value)} (r : KV kvs vs) (k : κ) {y : V} {u : Value} (ry : RelV y u) :
    KV (kvs.map fun kv => if kv.1 = k then (kv.1, y) else kv) (vs.map fun kv => if kv.1 = k then (kv.1, u) else kv) := by
  unfold KV at r ⊢
  induction r with
  | nil => exact .nil
  | @cons p q ps qs h t ih =>
    rw [List.map_cons, List.map_cons]
    refine .cons ?_ ih
    obtain ⟨h1, h2⟩ := h
    by_cases e : p.1 = k
    · rw [if_pos e, if_pos (h1.symm.trans e)]; exact ⟨h1, ry⟩
    · rw [if_neg e, if_neg (fun z => e (h1.trans z))]; exact ⟨h1, h2⟩
theorem KV.put {kvs : List (κ × V)} {vs : List (κ × Value)} (r : KV kvs vs) (k : κ) {y : V} {u : Value} (ry : RelV y u) : KV (putK kvs k y) (stored vs k u) := by
  unfold putK stored
  rw [r.any k]
  by_cases e : (vs.any fun kv => decide (kv.1 = k)) = true
  · rw [if_pos e, if_pos e]; exact r.repl k ry
  · rw [if_neg e, if_neg e]; exact Paired.snoc r ⟨rfl, ry⟩
theorem KV.drop {kvs : List (κ × V)} {vs : List (κ × Value)} (r : KV kvs vs) (k : κ) : KV (dropK kvs k) (without vs k) := by
  unfold KV at r ⊢
  unfold dropK without
  induction r with
  | nil => exact .nil
  | @cons p q ps qs h t ih =>
    obtain ⟨h1, h2⟩ := h
    rw [List.filter_cons, List.filter_cons]
    by_cases e : p.1 = k
    · have a : ¬ decide (p.1 ≠ k) = true := by simp [e]
      have b : ¬ decide (q.1 ≠ k) = true := by simp [h1.symm.trans e]
      rw [if_neg a, if_neg b]; exact ih
    · have e' : ¬ q.1 = k := fun z => e (h1.trans z)
      have a : decide (p.1 ≠ k) = true := by simp [e]
      have b : decide (q.1 ≠ k) = true := by simp [e']
      rw [if_pos a, if_pos b]; exact .cons ⟨h1, h2⟩ ih
theorem KV.keys {kvs : List (κ × V)} {vs : List (κ × Value)} (r : KV kvs vs) : kvs.map (·.1) = vs.map (·.1) := by
  unfold KV at r
  induction r with
  | nil => rfl
  | cons h t ih => rw [List.map_cons, List.map_cons, ih, h.1]
theorem KV.length {kvs : List (κ × V)} {vs : List (κ × Value)} (r : KV kvs vs) : kvs.length = vs.length := Paired.length r
end


theorem kV_is {P : Program} {w : World} {k : Key} {u : Value} (r : RelV (kV k) u) : (mixKind P w).is k u = true := by
  cases k with
  | inl i => obtain ⟨t, e⟩ := (show ∃ t, u = Value.int i t from r); subst e; exact mixKind_int P w i t
  | inr x => obtain ⟨t, e⟩ := (show ∃ t, u = Value.str x t from r); subst e; exact mixKind_str P w x t
theorem items_are {P : Program} {w : World} : ∀ {ks : List Key} {us : List Value}, Vals (ks.map kV) us → ItemsAre (mixKind P w) ks us
  | [], _, r => by rw [List.map_nil] at r; cases r; exact .nil
  | k :: ks, _, r => by
    rw [List.map_cons] at r
    cases r with
    | cons h t => exact .cons (kV_is h) (items_are t)

abbrev KT (H : Hp) : List (List Key × V) → List (List Key × Addr × Value) → Prop := Paired fun p q => p.1 = q.1 ∧ H q.2.1 = some (.tup (p.1.map kV)) ∧ RelV p.2 q.2.2
theorem KT.val {H : Hp} {kvs : List (List Key × V)} {xs : List (List Key × Addr × Value)} (r : KT H kvs xs) (k : List Key) : RelO (valV kvs k) ((atKey xs k).map (·.2)) := by
  induction r with
  | nil => exact True.intro
  | @cons p q ps qs h t ih =>
    obtain ⟨h1, _, h2⟩ := h
    by_cases e : p.1 = k
    · have e' : q.1 = k := h1.symm.trans e
      have b : atKey (q :: qs) k = some q.2 := by simp [atKey, List.find?_cons, e']
      rw [valV_pos e, b]; exact h2
    · have e' : ¬ q.1 = k := fun z => e (h1.trans z)
      have b : atKey (q :: qs) k = atKey qs k := by simp [atKey, List.find?_cons, e']
      rw [valV_neg e, b]; exact ih
theorem KT.repl {H : Hp} {kvs : List (List Key × V)} {xs : List (List Key × Addr × Value)} (r : KT H kvs xs) (k : List Key) {y : V} {u : Value} (ry : RelV y u) :
    KT H (kvs.map fun kv => if kv.1 = k then (kv.1, y) else kv) (xs.map (putAt k u)) := by
  induction r with
  | nil => exact .nil
  | @cons p q ps qs h t ih =>
    rw [List.map_cons, List.map_cons]
    refine .cons ?_ ih
    obtain ⟨h1, h2, h3⟩ := h
    unfold putAt
    by_cases e : p.1 = k
    · rw [if_pos e, if_pos (h1.symm.trans e)]; exact ⟨h1, h2, ry⟩
    · rw [if_neg e, if_neg (fun z => e (h1.trans z))]; exact ⟨h1, h2, h3⟩
theorem KT.put {H : Hp} {kvs : List (List Key × V)} {xs : List (List Key × Addr × Value)} (r : KT H kvs xs) (k : List Key) {b : Addr} {y : V} {u : Value} (hb : H b = some (.tup (k.map kV))) (ry : RelV y u) :
    KT H (putK kvs k y) (storedH xs k b u) := by
  have e : (kvs.any fun kv => decide (kv.1 = k)) = (atKey xs k).isSome := by
    rw [valV_any, (r.val k).isSome_eq, Option.isSome_map]
  unfold putK storedH
  rw [e]
  by_cases q : (atKey xs k).isSome = true
  · rw [if_pos q, if_pos q]; exact r.repl k ry
  · rw [if_neg q, if_neg q]; exact Paired.snoc r ⟨rfl, hb, ry⟩
theorem KT.keeps {H H' : Hp} {kvs : List (List Key × V)} {xs : List (List Key × Addr × Value)} (r : KT H kvs xs) (ht : ∀ b ys, H b = some (.tup ys) → H' b = some (.tup ys)) : KT H' kvs xs :=
  Paired.mapP r fun _ _ z => ⟨z.1, ht _ _ z.2.1, z.2.2⟩

section
variable {P : Program} {w : World} {H : Hp} {h : Heap} {a : Addr}
theorem rd_of {u : HO} (ok : HOk P w H h) (e : Rd H a u) : ObjOk P w H h a u := e.ok ok
theorem dk_rd {kvs : List (Key × V)} (ok : HOk P w H h) (e : Rd H a (.dK kvs)) : kvs.length ≤ sizeLine ∧ (a == sysModules) = false ∧ ∃ vs, KV kvs vs ∧ h.DictOf (mixKind P w) a vs :=
  show ObjOk P w H h a (.dK kvs) from rd_of ok e
theorem dk_of {kvs : List (Key × V)} (ok : HOk P w H h) (e : H a = some (.dK kvs)) : kvs.length ≤ sizeLine ∧ (a == sysModules) = false ∧ ∃ vs, KV kvs vs ∧ h.DictOf (mixKind P w) a vs := dk_rd ok (.inl e)
theorem key_of {ks : List Key} (ok : HOk P w H h) (e : H a = some (.tup (ks.map kV))) : (tupleKind (mixKind P w)).is h ks a := by
  obtain ⟨_, its, r, o, h1, h2, n, h3⟩ := (show ObjOk P w H h a (.tup (ks.map kV)) from ok a _ e)
  exact ⟨o, its.toArray, n, h1, h2, h3, by simpa using items_are r⟩
theorem dt_rd {kvs : List (List Key × V)} (ok : HOk P w H h) (e : Rd H a (.dT kvs)) : kvs.length ≤ sizeLine ∧ (a == sysModules) = false ∧
    ∃ xs, KT H kvs xs ∧ h.DictOfH (tupleKind (mixKind P w)) a xs := by
  obtain ⟨z, y, xs, r, o, es, ep, h1, h2, h3, h4, h5⟩ := (show ObjOk P w H h a (.dT kvs) from rd_of ok e)
  refine ⟨z, y, xs, r, o, es, ep, h1, h2, h3, h4, fun x hx => ?_, h5⟩
  have all : ∀ {l : List (List Key × V)} {m : List (List Key × Addr × Value)}, KT H l m → ∀ x ∈ m, (tupleKind (mixKind P w)).is h x.1 x.2.1 := by
    intro l m q
    induction q with
    | nil => intro x hx; exact nomatch hx
    | @cons p q ps qs hq t ih =>
      intro x hx
      rcases List.mem_cons.mp hx with e | hx
      · subst e
        exact key_of ok (by rw [← hq.1]; exact hq.2.1)
      · exact ih x hx
  exact all r x hx
theorem dt_of {kvs : List (List Key × V)} (ok : HOk P w H h) (e : H a = some (.dT kvs)) : kvs.length ≤ sizeLine ∧ (a == sysModules) = false ∧
    ∃ xs, KT H kvs xs ∧ h.DictOfH (tupleKind (mixKind P w)) a xs := dt_rd ok (.inl e)
end

def DGet (H : Hp) (a : Addr) (y : V) (r : Option V) : Prop :=
  (∃ kvs k, Rd H a (.dK kvs) ∧ y = kV k ∧ r = valV kvs k) ∨ ∃ kvs k b, Rd H a (.dT kvs) ∧ y = .ref b ∧ H b = some (.tup (k.map kV)) ∧ r = valV kvs k
def DPut (H : Hp) (a : Addr) (y v : V) (H' : Hp) : Prop :=
  (∃ kvs k, H a = some (.dK kvs) ∧ y = kV k ∧ kvs.length < sizeLine ∧ H' = upd H a (.dK (putK kvs k v))) ∨
  ∃ kvs k b, H a = some (.dT kvs) ∧ y = .ref b ∧ H b = some (.tup (k.map kV)) ∧ kvs.length < sizeLine ∧ H' = upd H a (.dT (putK kvs k v))
theorem DGet.k {H : Hp} {a : Addr} {kvs : List (Key × V)} {k : Key} (e : H a = some (.dK kvs)) : DGet H a (kV k) (valV kvs k) := .inl ⟨kvs, k, .inl e, rfl, rfl⟩
theorem DGet.t {H : Hp} {a b : Addr} {kvs : List (List Key × V)} {k : List Key} (e : H a = some (.dT kvs)) (eb : H b = some (.tup (k.map kV))) : DGet H a (.ref b) (valV kvs k) := .inr ⟨kvs, k, b, .inl e, rfl, eb, rfl⟩
theorem DPut.k {H : Hp} {a : Addr} {kvs : List (Key × V)} {k : Key} {v : V} (e : H a = some (.dK kvs)) (hl : kvs.length < sizeLine) : DPut H a (kV k) v (upd H a (.dK (putK kvs k v))) := .inl ⟨kvs, k, e, rfl, hl, rfl⟩
theorem DPut.t {H : Hp} {a b : Addr} {kvs : List (List Key × V)} {k : List Key} {v : V} (e : H a = some (.dT kvs)) (eb : H b = some (.tup (k.map kV))) (hl : kvs.length < sizeLine) :
    DPut H a (.ref b) v (upd H a (.dT (putK kvs k v))) := .inr ⟨kvs, k, b, e, rfl, eb, hl, rfl⟩


section
variable {X : Cx} {pins : List (Addr × Obj)} {σ : St} {H : Hp} {s : Shared} {a : Addr} {y v : V} {u r : Value} {o : Option V} {A : Around} {E : Value → Shared → Prop}

theorem Inv.big (I : Inv X pins σ H s) : sysModules < s.heap.objs.size := by
  have h : mainGlobals < s.heap.objs.size := (I.mod.glob.keeps I.bk).lt
  exact Nat.lt_trans (by decide) h

theorem d_getItem {Q : Value → Shared → Prop} (hu : A.units + 1 < cLine) (I : Inv X pins σ H s) (g : DGet H a y (some v)) (ry : RelV y u) (h : ∀ w' s', Inv X pins σ H s' → RelV v w' → Q w' s') :
    wpAny (model X.prog X.w) A (getItem (.ref a) u) Q E s := by
  rcases g with ⟨kvs, k, e, ey, l⟩ | ⟨kvs, k, b, e, ey, eb, l⟩
  · subst ey
    obtain ⟨z, hd, vs, rel, dd⟩ := dk_rd I.hok e
    obtain ⟨w', hw, rw'⟩ := RelO.some_of (v := v) (o := valueAt vs k) (by rw [l]; exact rel.val k)
    exact wpAny_getItem_of (kV_is ry) dd.mapOf hw (h w' _ (I.tok _) rw')
  · subst ey
    cases (show u = Value.ref b from ry)
    obtain ⟨z, hd, xs, rel, dd⟩ := dt_rd I.hok e
    obtain ⟨w', hw, rw'⟩ := RelO.some_of (v := v) (o := (atKey xs k).map (·.2)) (by rw [l]; exact rel.val k)
    obtain ⟨p, hp, hp2⟩ := Option.map_eq_some_iff.mp hw
    refine wpAny_getItem_heap (tupleKind_room_in1 hu) (key_of I.hok eb) dd hp ?_
    rw [hp2]
    exact h w' _ (I.tok _) rw'
theorem d_notIn {Q : Value → Shared → Prop} (hu : A.units + 1 < cLine) (I : Inv X pins σ H s) (g : DGet H a y o) (ry : RelV y u) (h : ∀ s', Inv X pins σ H s' → Q (.bool (!o.isSome)) s') :
    wpAny (model X.prog X.w) A (compareOp .NotIn u (.ref a)) Q E s := by
  rcases g with ⟨kvs, k, e, ey, l⟩ | ⟨kvs, k, b, e, ey, eb, l⟩
  · subst ey
    obtain ⟨z, hd, vs, rel, dd⟩ := dk_rd I.hok e
    refine wpAny_notIn_of (kV_is ry) hd dd.mapOf ?_
    rw [← (rel.val k).isSome_eq, ← l]
    exact h _ (I.tok _)
  · subst ey
    cases (show u = Value.ref b from ry)
    obtain ⟨z, hd, xs, rel, dd⟩ := dt_rd I.hok e
    refine wpAny_notIn_heap (tupleKind_room_in1 hu) (key_of I.hok eb) hd dd ?_
    have q := (rel.val k).isSome_eq
    rw [Option.isSome_map] at q
    rw [← q, ← l]
    exact h _ (I.tok _)
theorem d_write {h' : Heap} {t' : Nat} {ob : HO} (I : Inv X pins σ H s) (mu : Mut (H a)) (hs : Heap.SameBut a s.heap h') (he : ∃ q, h'.get? a = some q) (new : ObjOk X.prog X.w (upd H a ob) h' a ob) :
    Inv X pins σ (upd H a ob) { s with heap := h', toks := t' } :=
  I.write (x := a) (e := a) mu (.inl rfl) (fun b q hb z => (hs.2 b hb).trans z) he new
theorem dk_new {P : Program} {w : World} {H' : Hp} {h' : Heap} {kvs : List (Key × V)} {vs : List (Key × Value)} (z : kvs.length ≤ sizeLine) (hd : (a == sysModules) = false) (rel : KV kvs vs) (dd : h'.DictOf (mixKind P w) a vs) :
    ObjOk P w H' h' a (.dK kvs) := ⟨z, hd, vs, rel, dd⟩
theorem d_setItem {H' : Hp} {Q : Unit → Shared → Prop} (hu : A.units + 1 < cLine) (I : Inv X pins σ H s) (g : DPut H a y v H') (ry : RelV y u) (rv : RelV v r) (h : ∀ s', Inv X pins σ H' s' → Q () s') :
    wpAny (model X.prog X.w) A (setItem (.ref a) u r) Q E s := by
  rcases g with ⟨kvs, k, e, ey, l, eH⟩ | ⟨kvs, k, b, e, ey, eb, l, eH⟩
  · subst ey eH
    obtain ⟨z, hd, vs, rel, dd⟩ := dk_of I.hok e
    have hz : vs.length ≤ sizeLine := by rw [← rel.length]; exact z
    have hl : (putK kvs k v).length ≤ sizeLine := by have := length_putK kvs k v; omega
    refine wpAny_setItem_pairs (hsz := hz) (kV_is ry) dd fun h' dd' hs => h _ ?_
    have he : ∃ q, h'.get? a = some q := let ⟨q, _, _, hq, _⟩ := dd'; ⟨q, hq⟩
    exact d_write I (by rw [e]; exact True.intro) hs he (dk_new hl hd (rel.put k rv) dd')
  · subst ey eH
    cases (show u = Value.ref b from ry)
    obtain ⟨z, hd, xs, rel, dd⟩ := dt_of I.hok e
    have hz : xs.length ≤ sizeLine := by rw [← Paired.length rel]; exact z
    have hl : (putK kvs k v).length ≤ sizeLine := by have := length_putK kvs k v; omega
    refine wpAny_setItem_heap (hsz := hz) (tupleKind_room_in1 hu) (key_of I.hok eb) dd fun h' dd' hs => h _ ?_
    obtain ⟨q, es, ep, hq, h2, h3, h4, _, h5⟩ := dd'
    refine d_write I (by rw [e]; exact True.intro) hs ⟨q, hq⟩ ⟨hl, hd, _, (rel.put k eb rv).keeps fun c ys ec => ?_, q, es, ep, hq, h2, h3, h4, h5⟩
    rw [upd_ne (ne_of ec e (fun z => nomatch z))]
    exact ec
end

section
variable {X : Cx} {pins : List (Addr × Obj)} {σ : St} {H : Hp} {s : Shared} {a : Addr} {kvs : List (Key × V)} {k : Key} {u : Value} {A : Around} {E : Value → Shared → Prop}
end


def NoSl (i : Expr) : Prop := ∀ ov iv, subscripted i false ov iv = operate [ov, iv] (getItem ov iv)
theorem subD_of {prog : Program} {w : World} {A : Around} {E : Value → Shared → Prop} {s : Shared} {env : Env} {value slice : Expr} {pos : Pos} {T id : String} {Q : Value → Shared → Prop}
    (hl : typeLookup (.type T) "__getitem__" = pure (some (.builtin id))) (hs : NoSl slice)
    (h : wpAny (model prog w) A (eval value env) (fun o s₁ => wpAny (model prog w) A (eval slice env) (fun i s₂ => s₂.TypeIs o T ∧ wpAny (model prog w) A (getItem o i) Q E s₂) E s₁) E s) :
    wpAny (model prog w) A (eval (.Subscript value slice pos) env) Q E s := by
  refine Subscript_ (wpAny_mono h (fun o s₁ h₁ => wpAny_mono h₁ (fun i s₂ h₂ => ?_) fun _ _ x => x) fun _ _ x => x)
  obtain ⟨hT, h₂⟩ := h₂
  unfold subscriptTail
  refine wpAny_bind ?_
  rw [getitemInPython_of_ne hT.not_modules]
  refine wpAny_bind (wpAny_specialOf hT hl ?_)
  have fin : wpAny (model prog w) A (subscripted slice false o i) (fun r s₃ => wpAny (model prog w) A (letTemporaryGo value o r >>= fun _ => pure r) Q E s₃) E s₂ := by
    rw [hs o i]
    exact wpAny_operating (wpAny_mono h₂ (fun r s₃ h₃ => wpAny_bind (wpAny_letTemporaryGo (wpAny_pure h₃))) fun _ _ x => x)
  first
    | exact wpAny_pure (wpAny_bind fin)
    | exact wpAny_bind (wpAny_pure (wpAny_bind fin))
    | exact wpAny_bind fin

theorem dict_typeIs {X : Cx} {pins : List (Addr × Obj)} {σ : St} {H : Hp} {s : Shared} {a : Addr} {y : V} {o : Option V} (I : Inv X pins σ H s) (g : DGet H a y o) : s.TypeIs (.ref a) "dict" := by
  rcases g with ⟨kvs, k, e, _, _⟩ | ⟨kvs, k, b, e, _, _, _⟩
  · obtain ⟨_, _, vs, _, dd⟩ := dk_rd I.hok e
    exact dd.typeIs
  · obtain ⟨_, _, xs, _, dd⟩ := dt_rd I.hok e
    exact dd.typeIs
inductive DgQ (x y : V) (H : Hp) (Q : VK) : Prop
  | mk (a : Addr) (v : V) (e : x = .ref a) (g : DGet H a y (some v)) (q : Q v H) : DgQ x y H Q
inductive DiQ (x y : V) (H : Hp) (Q : VK) : Prop
  | mk (a : Addr) (o : Option V) (e : x = .ref a) (g : DGet H a y o) (q : Q (.bl o.isSome) H) : DiQ x y H Q
inductive DnQ (x y : V) (H : Hp) (Q : VK) : Prop
  | mk (a : Addr) (o : Option V) (e : x = .ref a) (g : DGet H a y o) (q : Q (.bl (!o.isSome)) H) : DnQ x y H Q
def tDGet (td ty : TE) : TE := fun σ H Q => td σ H fun x H1 => ty σ H1 fun y H2 => DgQ x y H2 Q
def tDNotIn (ty td : TE) : TE := fun σ H Q => ty σ H fun y H1 => td σ H1 fun x H2 => DnQ x y H2 Q
def sDPut (td ty tv : TE) : TS := fun D σ H => tv σ H fun v H1 => td σ H1 fun x H2 => ty σ H2 fun y H3 => ∃ a H4, x = .ref a ∧ DPut H3 a y v H4 ∧ D.nx σ H4
section
variable {X : Cx} {o i e value : Expr} {pos pos' tpos : Pos} {td ty tv : TE}
theorem pe_dget (hu : X.A.units + 1 < cLine) (ho : PE X o td) (hi : PE X i ty) (hs : NoSl i) : PE X (.Subscript o i pos) (tDGet td ty) := by
  intro pins s σ H Q I h
  refine subD_of PySem.F.slot_dict_getitem.lookup hs (thn (ho pins s σ H _ I h) fun u s1 zq => zq.elim fun x H1 I1 rx q1 => thn (hi pins s1 σ H1 _ I1 q1) fun iv s2 ⟨y, H2, I2, ry, a, v, ex, g, q2⟩ => ?_)
  subst ex
  obtain rfl : u = Value.ref a := rx
  exact ⟨dict_typeIs I2 g, d_getItem hu I2 g ry fun w' s3 I3 rw' => ⟨v, H2, I3, rw', q2⟩⟩
theorem pc_dnotin (hu : X.A.units + 1 < cLine) (hi : PE X i ty) (ho : PE X o td) : PC X .NotIn i o (tDNotIn ty td) := by
  intro pins s σ H Q I h
  refine thn (hi pins s σ H _ I h) fun iv s1 zq => zq.elim fun y H1 I1 ry q1 => thn (ho pins s1 σ H1 _ I1 q1) fun u s2 ⟨x, H2, I2, rx, a, ov, ex, g, q2⟩ => ?_
  subst ex
  obtain rfl : u = Value.ref a := rx
  exact d_notIn hu I2 g ry fun s3 I3 => ⟨.bl (!ov.isSome), H2, I3, rfl, q2⟩
theorem ps_dput (hu : X.A.units + 1 < cLine) (ho : PE X o td) (hi : PE X i ty) (hv : PE X value tv) (hs : swapsWith value (some (.Subscript o i pos')) pos.line X.env = pure false) :
    PS X (.Assign [.Subscript o i pos'] value pos) (sDPut td ty tv) := by
  intro pins s σ H D I h
  refine wpAny_Assign_Subscript (thn (hv pins s σ H _ I h) fun r s1 zq => zq.elim fun v H1 I1 rv q1 => thn (ho pins s1 σ H1 _ I1 q1) fun u s2 zq => zq.elim fun x H2 I2 rx q2 => thn (hi pins s2 σ H2 _ I2 q2) fun iv s3 ⟨y, H3, I3, ry, a, H4, ex, g, q3⟩ => ?_) hs
  subst ex
  obtain rfl : u = Value.ref a := rx
  exact d_setItem hu I3 g ry rv fun s4 I4 => ⟨σ, H4, I4, q3⟩
end


theorem dk_empty {P : Program} {w : World} {H : Hp} (h : Heap) (hb : sysModules < h.objs.size) : ObjOk P w H (h.push { cls := .type "dict", data := .dict #[] }) h.objs.size (.dK []) :=
  ⟨Nat.zero_le _, beq_eq_false_iff_ne.mpr (Ne.symm (Nat.ne_of_lt hb)), [], .nil, Heap.DictOf.new h⟩
def tDNewK : TE := fun _ H Q => ∀ p, H p = none → Q (.ref p) (upd H p (.dK []))
section
variable {X : Cx} {pos : Pos}
theorem pe_dnewK : PE X (.Dict [] [] pos) tDNewK := fun pins s σ H Q I h =>
  wpAny_Dict_empty ⟨.ref s.heap.objs.size, _, I.laid (a := s.heap.objs.size) (o := .dK []) (t' := s.toks) (fun _ _ q => Heap.get?_push_of_some _ q) (Nat.le_refl _) (dk_empty s.heap I.big), rfl, h _ (I.hok.fresh (Nat.le_refl _))⟩
end

def tPairs : List (TE × TE) → St → Hp → (List (V × V) → Hp → Prop) → Prop
  | [], _, H, Q => Q [] H
  | (tk, tv) :: r, σ, H, Q => tk σ H fun x H1 => tv σ H1 fun y H2 => tPairs r σ H2 fun ps H3 => Q ((x, y) :: ps) H3
abbrev VV : List (V × V) → List (Value × Value) → Prop := Paired fun p q => RelV p.1 q.1 ∧ RelV p.2 q.2
def PPs (X : Cx) (pos : Pos) (keys : List (Option Expr)) (values : List Expr) (trs : List (TE × TE)) : Prop :=
  ∀ (pins : List (Addr × Obj)) (s : Shared) (σ : St) (H : Hp) (Q : List (V × V) → Hp → Prop), Inv X pins σ H s → tPairs trs σ H Q →
    wpAny (model X.prog X.w) X.A (evalPairs (pairTrees keys values X.env pos)) (fun vs s' => ∃ ps H', Inv X pins σ H' s' ∧ VV ps vs ∧ Q ps H') X.xe s
theorem pps_nil {X : Cx} {pos : Pos} : PPs X pos [] [] [] := fun pins s σ H Q I h => pairTrees_nil_walk ⟨[], H, I, .nil, h⟩
theorem pps_cons {X : Cx} {pos : Pos} {k v : Expr} {ks : List (Option Expr)} {vs : List Expr} {tk tv : TE} {trs : List (TE × TE)} (hk : PE X k tk) (hv : PE X v tv) (hr : PPs X pos ks vs trs) :
    PPs X pos (some k :: ks) (v :: vs) ((tk, tv) :: trs) := fun pins s σ H Q I h =>
  pairTrees_cons_walk (thn (hk pins s σ H _ I h) fun u s1 zq => zq.elim fun x H1 I1 rx q1 => thn (hv pins s1 σ H1 _ I1 q1) fun w2 s2 ⟨y, H2, I2, ry, q2⟩ =>
    thn (hr pins s2 σ H2 _ I2 q2) fun ws s3 ⟨ps, H3, I3, rel, q3⟩ => ⟨(x, y) :: ps, H3, I3, .cons ⟨rx, ry⟩ rel, q3⟩)

def mergeK (kvs more : List (Key × V)) : List (Key × V) := more.foldl (fun acc kv => putK acc kv.1 kv.2) kvs
theorem KV.merge : ∀ {more : List (Key × V)} {rs : List (Key × Value)} {kvs : List (Key × V)} {vs : List (Key × Value)}, KV more rs → KV kvs vs → KV (mergeK kvs more) (merged vs rs) := by
  intro more rs kvs vs r
  unfold KV at r
  induction r generalizing kvs vs with
  | nil => intro q; exact q
  | @cons p q ps qs h t ih =>
    intro r0
    have e : KV (putK kvs p.1 p.2) (stored vs q.1 q.2) := by
      have := r0.put p.1 h.2
      rw [← h.1]; exact this
    exact ih e
theorem length_mergeK : ∀ (more kvs : List (Key × V)), (mergeK kvs more).length ≤ kvs.length + more.length
  | [], kvs => by show kvs.length ≤ kvs.length + 0; omega
  | p :: r, kvs => by
    have h1 := length_mergeK r (putK kvs p.1 p.2)
    have h2 := length_putK kvs p.1 p.2
    show (mergeK (putK kvs p.1 p.2) r).length ≤ _
    rw [List.length_cons]; omega
theorem carries_of {P : Program} {w : World} : ∀ {kvs : List (Key × V)} {ws : List (Value × Value)}, VV (kvs.map fun kv => (kV kv.1, kv.2)) ws → ∃ rs, Carries (mixKind P w) ws rs ∧ KV kvs rs
  | [], _, r => by rw [List.map_nil] at r; cases r; exact ⟨[], True.intro, .nil⟩
  | p :: kvs, _, r => by
    rw [List.map_cons] at r
    cases r with
    | @cons a b as bs h t =>
      obtain ⟨rs, c, q⟩ := carries_of (P := P) (w := w) t
      obtain ⟨b1, b2⟩ := b
      exact ⟨(p.1, b2) :: rs, ⟨kV_is h.1, rfl, c⟩, .cons ⟨rfl, h.2⟩ q⟩
def tDisp (trs : List (TE × TE)) : TE := fun σ H Q => ∀ p, H p = none → tPairs trs σ (upd H p (.dK [])) fun ps H2 => H2 p = some (.dK []) ∧ ∃ kvs : List (Key × V), ps = kvs.map (fun kv => (kV kv.1, kv.2)) ∧ kvs.length ≤ 15 ∧ Q (.ref p) (upd H2 p (.dK (mergeK [] kvs)))
theorem pe_disp {X : Cx} {pos : Pos} {keys : List (Option Expr)} {values : List Expr} {trs : List (TE × TE)} (h : PPs X pos keys values trs) (hall : keys.all (·.isSome) = true) (hl : keys.length = values.length) (h0 : keys ≠ [])
    (h15 : keys.length ≤ 15) : PE X (.Dict keys values pos) (tDisp trs) := by
  intro pins s σ H Q I q
  have hn := I.hok.fresh (Nat.le_refl s.heap.objs.size)
  have I1 := I.laid (a := s.heap.objs.size) (o := .dK []) (h' := s.heap.push { cls := .type "dict", data := .dict #[] }) (t' := s.toks) (fun _ _ q => Heap.get?_push_of_some _ q) (Nat.le_refl _) (dk_empty s.heap I.big)
  refine wpAny_Dict_walk (knd := mixKind X.prog X.w) hall hl h0 h15 (thn (h pins _ σ _ _ I1 (q _ hn)) fun ws s2 ⟨ps, H2, I2, rel, e, kvs, ep, lk, q2⟩ => ?_)
  subst ep
  obtain ⟨rs, c, rk⟩ := carries_of (P := X.prog) (w := X.w) rel
  obtain ⟨z, hd, vs0, r0, dd⟩ := dk_of I2.hok e
  cases r0
  refine ⟨rs, c, dd, fun h' dd' hs => ⟨.ref s.heap.objs.size, _, ?_, rfl, q2⟩⟩
  have hz : (mergeK [] kvs).length ≤ sizeLine := by
    have h1 := length_mergeK kvs []
    rw [List.length_nil] at h1
    rw [sizeLine_eq]; omega
  have he : ∃ q, h'.get? s.heap.objs.size = some q := let ⟨q, _, _, hq, _⟩ := dd'; ⟨q, hq⟩
  exact d_write I2 (by rw [e]; exact True.intro) hs he (dk_new hz hd (rk.merge .nil) dd')


structure M1 (X : Cx) (o : Expr) (m : Str) (apos : Pos) (e : Expr) (cpos : Pos) : Prop where
  base : attributeBase o m X.env (eval o X.env) = eval o X.env
  few : ((backTo cpos (starEach [e] X.env)).all (fun x => !x.1) && (backToKw cpos (keywordEach [] X.env)).all (fun x => x.1.isSome)
    && decide (([e] : List Expr).length + ([] : List Keyword).length + (if ([] : List Keyword).isEmpty then 0 else 1) < 30)) = true
  line : (apos.endLine == cpos.line) = true
  trees : backTo cpos (starEach [e] X.env) = [(false, eval e X.env)]
structure M2 (X : Cx) (o : Expr) (m : Str) (apos : Pos) (e f : Expr) (cpos : Pos) : Prop where
  base : attributeBase o m X.env (eval o X.env) = eval o X.env
  few : ((backTo cpos (starEach [e, f] X.env)).all (fun x => !x.1) && (backToKw cpos (keywordEach [] X.env)).all (fun x => x.1.isSome)
    && decide (([e, f] : List Expr).length + ([] : List Keyword).length + (if ([] : List Keyword).isEmpty then 0 else 1) < 30)) = true
  line : (apos.endLine == cpos.line) = true
  trees : backTo cpos (starEach [e, f] X.env) = [(false, eval e X.env), (false, eval f X.env)]

section
variable {X : Cx} {pins : List (Addr × Obj)} {σ : St} {H : Hp} {s : Shared} {a : Addr} {y d : V} {u r : Value} {o : Option V} {A : Around} {E : Value → Shared → Prop}
end

section
variable {X : Cx} {o e f : Expr} {apos cpos : Pos} {td ty tx : TE}
end

section
variable {X : Cx} {pins : List (Addr × Obj)} {σ : St} {H : Hp} {s : Shared} {a : Addr} {kvs : List (Key × V)} {A : Around} {E : Value → Shared → Prop}
end


section
variable {X : Cx} {pins : List (Addr × Obj)} {σ : St} {H : Hp} {s : Shared} {a : Addr} {y : V} {u : Value} {A : Around} {E : Value → Shared → Prop}
end
end L2

namespace Att
open PySem PySem.W PySem.Calls PyProof.Rows

theorem ints_of_wellAll {P : Params} {h : Heap} : ∀ (ns : List Int) (vs : List Value), WellAll P h vs (ns.map WData.int) → IntsAre vs ns := by
  intro ns
  induction ns with
  | nil =>
    intro vs w
    rw [List.map_nil] at w
    cases w
    exact .nil
  | cons n ns ih =>
    intro vs w
    rw [List.map_cons] at w
    cases w with
    | cons a b =>
      cases a
      exact .cons _ _ (ih _ b)

theorem script_of {l : OpenLaw} {n : Nat} (hn : l.most = some n) {P : Params} {h : Heap} {args : List WData} {vals : List Value}
    (hpre : l.row.toRowW.claim.pre args = true) (hwl : WellAll P h vals args) :
    ∃ a vs ns, vals = [Value.ref a] ∧ args = [WData.list (ns.map WData.int)] ∧ h.get? a = some { cls := .type "list", data := .seq vs.toArray } ∧ IntsAre vs ns ∧ ns.length ≤ n := by
  have hsh : WShape.hasAll [] args [.list .int] = true := (pre_splitW hpre).1
  have hc : l.pre.holds [] { args := args } = true := (pre_splitW hpre).2
  obtain ⟨d, r, rfl, h1, h2⟩ := hasAllW_cons hsh
  obtain rfl := hasAllW_nil h2
  obtain ⟨xs, rfl, h3⟩ := hasW_list h1
  obtain ⟨ns, rfl⟩ := items_int h3
  have hlen : ns.length ≤ n := by
    unfold OpenLaw.pre at hc
    have h4 : (WTm.not (.lt (.lit (.int (n : Int))) (.len (.arg 0)))).holds [] { args := [.list (ns.map .int)] } = true := by
      have h4 := (holds_andW hc).1
      rw [hn] at h4
      exact h4
    have h5 := condW_of h4 (w_not (w_lt w_lit (w_len_list (w_arg rfl))))
    rw [List.length_map] at h5
    refine Nat.le_of_not_lt fun q => ?_
    have q' : (n : Int) < ((ns.length : Nat) : Int) := by omega
    first
      | (rw [decide_eq_true q'] at h5; exact absurd h5 (by decide))
      | (simp at h5; omega)
  cases hwl with
  | cons w1 w2 =>
    cases w2
    cases w1 with
    | list ho hall => exact ⟨_, _, ns, rfl, rfl, ho, ints_of_wellAll ns _ hall, hlen⟩

theorem post_true (l : OpenLaw) (args : List WData) : l.row.toRowW.claim.post args (.bool true) args = true :=
  postW_of (r := l.row.toRowW) (X := (true == true))
    (show WShape.has [] (.bool true) .bool = true by first | rfl | decide | simp [WShape.has, WShape.arms, WShape.armsAll])
    (show (WTm.eq .res (.lit (.bool true))).value [] { args := args, res := some (.bool true), after := args } = some (.bool (true == true)) from w_eq_bool (w_res rfl) w_lit) rfl

theorem attach_call {l : OpenLaw} {n : Nat} {q : Program} {loose : List Str} {XP : (Str → Option Value) → Heap → Prop} {YP : World → Heap → Prop} {d : DefRec}
    (hn : l.most = some n) (hdf : d.params.defaults = [])
    (call : ∀ (w : World) (s₀ s₁ : Shared) (mg mb : Str → Option Value) (fa : Addr) (o : Obj) (pm cd doc : Value) (a : Addr) (vs : List Value) (ns : List Int),
      Ground q loose [] XP w s₀ mg mb s₁.heap → YP w s₁.heap →
      s₁.heap.get? fa = some o → o.data = .func (docDef d.name d.params d.body d.scope pm cd doc) → s₁.heap.CodeRec cd d.name → mg d.name = some (.ref fa) →
      s₁.heap.get? a = some { cls := .type "list", data := .seq vs.toArray } → IntsAre vs ns → ns.length ≤ n → s₁.gens = #[] →
      codeAny (model l.prog w) callerA (.call (.ref fa) ⟨[.ref a], []⟩) (fun r s' => r = .ok (.ret (.bool true)) ∧ OldK s₁.heap s'.heap ∧ s'.os = s₁.os ∧ AllBare s'.gens) s₁) :
    WalkO q loose XP YP l.row.toRowW d [] (fun f vs => PySem.call f vs) := by
  intro w s₀ s₁ mg mb G Y fa o pm cd doc dV kV ho hd hcd hD hmg hg args vals as hpre hlay hrd hwl hlo
  obtain rfl : dV = .none := Dflts.none hD hdf
  obtain rfl : kV = .none := Dflts.noKw hD
  obtain ⟨a, vs, ns, rfl, rfl, hobj, hints, hlen⟩ := script_of hn hpre hwl
  refine enter_call (codeAny_mono (call w s₀ s₁ mg mb fa o pm cd doc a vs ns G Y ho (fd_plain hd) hcd hmg hobj hints hlen hg) fun r s' hq => ?_)
  obtain ⟨rfl, h2, h3, h4⟩ := hq
  exact ⟨.inl ⟨.bool true, .bool true, [], rfl, fun _ => rfl, .bool true, post_true l _, fun _ => ⟨List.Pairwise.nil, fun _ hm => (nomatch hm)⟩⟩, h2, h3, h4⟩

section
variable {prog : Program} {w : World} {A : Around} {E : Value → Shared → Prop} {s : Shared} {K : Frag}

end
end Att

namespace L2
open PySem PySem.Spec PyProof.Rows

theorem vals_ints {vs : List Value} {ns : List Int} (h : IntsAre vs ns) : Vals (ns.map V.int) vs := by
  induction h with
  | nil => exact .nil
  | cons n t _ ih => exact .cons ⟨t, rfl⟩ ih

def Only (H : Hp) : Prop := ∀ b, H b = none ∨ ∃ o xs, H b = some (.frz o (.lst xs))

theorem law_call {P : Program} {w : World} {K : PySem.W.Frag} {mg mb : Str → Option Value} {CX : CXT} {k : Nat} {fa a : Addr} {fd : FuncData} {x : Str} {sp : Sp} {s₁ : Shared} {vs : List Value} {ns : List Int}
    (KX : K.In s₁.heap) (hns : s₁.heap.Ns mainGlobals mg) (hb : s₁.heap.Ns builtinsNs mb) (hbb : ∀ x : Str, x ≠ "__name__" → mb x = bootBuiltins x) (hlim : s₁.heap.NoLimit) (hg : s₁.gens = #[])
    (ha : s₁.heap.get? a = some { cls := .type "list", data := .seq vs.toArray }) (hi : IntsAre vs ns) (hl : ns.length ≤ sizeLine) (hr : Room k callerA)
    (F : ∀ base : Heap, K.In base → base.Ns mainGlobals mg → FnOk P w K mg base CX k fa fd [x] sp) (hbind : ∀ (s : Shared) (u : Value), BindsTo s fd ⟨[u], []⟩ [(x, u)])
    (hsp : ∀ H : Hp, Only H → SqL K H a (ns.map V.int) → sp [.ref a] H (fun v _ => v = .bl true) fun _ _ _ => False)
    (hCX : ∀ H e s', CX [] H s₁ (fun _ _ _ => False) e s' → False) :
    codeAny (model P w) callerA (.call (.ref fa) ⟨[.ref a], []⟩) (fun r s' => r = .ok (.ret (.bool true)) ∧ OldK s₁.heap s'.heap ∧ s'.os = s₁.os ∧ AllBare s'.gens) s₁ := by
  have rv := vals_ints hi
  have lenV := hi.length
  have core : ∀ H : Hp, Only H → SqL K H a (ns.map V.int) → HOk P w H s₁.heap → (∀ b, H b ≠ none → b = a) → (H a ≠ none → K.lookup a = none) →
      codeAny (model P w) callerA (.call (.ref fa) ⟨[.ref a], []⟩) (fun r s' => r = .ok (.ret (.bool true)) ∧ OldK s₁.heap s'.heap ∧ s'.os = s₁.os ∧ AllBare s'.gens) s₁ := by
    intro H hO hS hok hA hK
    have base_of : ∀ {b : Addr} {o : Obj}, s₁.heap.get? b = some o → H b = none → (hidT s₁.heap H).get? b = some o := fun e n => hidT_get e n
    have noA : ∀ {b : Addr} {o : Obj} {es : Array DictEntry} {ep : Nat}, s₁.heap.get? b = some o → o.data = .dict es ep → H b = none := fun {b o es ep} e d => by
      cases q : H b with
      | none => rfl
      | some u =>
        have e' : b = a := hA b (by rw [q]; simp)
        subst e'
        rw [ha] at e; cases e
        have d' : Data.seq vs.toArray _ = Data.dict es ep := d
        cases d'
    have nsK : ∀ {b : Addr} {m : Str → Option Value}, s₁.heap.Ns b m → (hidT s₁.heap H).Ns b m := fun {b m} ⟨o, es, ep, e, d, r⟩ => ⟨o, es, ep, base_of e (noA e d), d, r⟩
    have hKb : K.In (hidT s₁.heap H) := fun b o e => base_of (KX b o e) (by
      cases q : H b with
      | none => rfl
      | some u =>
        have e' : b = a := hA b (by rw [q]; simp)
        subst e'
        rw [hK (by rw [q]; simp)] at e; cases e)
    have hM : Mod K mg (hidT s₁.heap H) := ⟨hKb, nsK hns, ⟨mb, nsK hb, hbb⟩, let ⟨mc, h1, h2⟩ := hlim; ⟨mc, nsK h1, h2⟩⟩
    have e0 : Env0 P w K mg (hidT s₁.heap H) callerA [] s₁ H := ⟨rfl, hM, fun b o e => of_hidT e, Nat.le_of_eq (hidT_size _ _), trivial, fun b hb => absurd (show b ∈ ([] : List Addr) from hb) (by simp), hok, .of_eq hg⟩
    refine codeAny_mono ((F _ hKb (nsK hns)).run callerA [] s₁ H ⟨[.ref a], []⟩ [.ref a] [.ref a] _ _ hr e0 (hbind s₁ (.ref a)) (.cons rfl .nil) (hsp H hO hS)) fun r s' h => ?_
    cases r with
    | error e => exact (hCX H e s' h).elim
    | ok fl =>
      cases fl with
      | next => exact False.elim h
      | brk => exact False.elim h
      | cont => exact False.elim h
      | ret u =>
        obtain ⟨v, H', os, bare, un, hok', r', q⟩ := h
        have q' : v = .bl true := q
        subst q'
        obtain rfl : u = Value.bool true := r'
        refine ⟨rfl, OldK.of_keep fun b o e => ?_, os, bare⟩
        cases q : H b with
        | none => exact un.keep b o e q (by intro z; exact absurd (show b ∈ ([] : List Addr) from z) (by simp)) (by simp)
        | some u =>
          rcases hO b with z | ⟨ob, xs, z⟩
          · rw [q] at z; cases z
          · have z2 := un.frzs b ob _ z
            obtain ⟨e1, _⟩ := hok b _ z
            obtain ⟨e2, _⟩ := hok' b _ z2
            rw [e] at e1; cases e1
            exact e2
  cases hk : K.lookup a with
  | some o =>
    have e := KX a o hk
    rw [ha] at e
    cases e
    refine core (fun _ => none) (fun _ => .inl rfl) (.inr ⟨_, vs.toArray, _, hk, rfl, rfl, rfl, by rw [List.size_toArray, lenV]; exact hl, by simpa using rv⟩) (fun b u z => by have z' : (none : Option HO) = some u := z; cases z') (fun b z => absurd rfl z) fun z => absurd rfl z
  | none =>
    refine core (fun b => if b = a then some (.frz { cls := .type "list", data := .seq vs.toArray } (.lst (ns.map V.int))) else none) (fun b => ?_) (.inl (.inr ⟨{ cls := .type "list", data := .seq vs.toArray }, if_pos rfl⟩)) (fun b u z => ?_) (fun b z => ?_) fun _ => hk
    · by_cases hb : b = a
      · exact .inr ⟨_, _, if_pos hb⟩
      · exact .inl (if_neg hb)
    · by_cases hb : b = a
      · have z' := (if_pos hb).symm.trans z
        cases z'
        subst hb
        exact ⟨ha, by rw [List.length_map]; exact hl, vs, _, rv, ha⟩
      · have z' := (if_neg hb).symm.trans z
        cases z'
    · by_cases hb : b = a
      · exact hb
      · exact absurd (if_neg hb) z
end L2

namespace L2
open PySem PySem.Spec PyProof.Rows

theorem walk_of {l : PySem.W.OpenLaw} {n k : Nat} {q : Program} {loose : List Str} {XP : (Str → Option Value) → Heap → Prop} {YP : World → Heap → Prop} {d : DefRec} {K : Params → PySem.W.Frag} {CX : World → CXT} {sp : World → Sp} {x : Str}
    (hn : l.most = some n) (hn2 : n ≤ sizeLine) (hdf : d.params.defaults = []) (hr : Room k callerA)
    (hY : ∀ (w : World) (h : Heap), YP w h → (K w.params).In h)
    (F : ∀ (w : World) (mg : Str → Option Value) (fa : Addr) (h : Heap), (K w.params).In h → h.Ns mainGlobals mg → mg d.name = some (.ref fa) →
      ∃ fd : FuncData, (∀ (s : Shared) (u : Value), BindsTo s fd ⟨[u], []⟩ [(x, u)]) ∧
        ∀ base : Heap, (K w.params).In base → base.Ns mainGlobals mg → FnOk l.prog w (K w.params) mg base (CX w) k fa fd [x] (sp w))
    (hsp : ∀ (w : World) (H : Hp) (a : Addr) (ns : List Int), ns.length ≤ n → Only H → SqL (K w.params) H a (ns.map V.int) → sp w [.ref a] H (fun v _ => v = .bl true) fun _ _ _ => False)
    (hCX : ∀ (w : World) (H : Hp) (s : Shared) (e : Value) (s' : Shared), CX w [] H s (fun _ _ _ => False) e s' → False) :
    PySem.W.WalkO q loose XP YP l.row.toRowW d [] (fun f vs => PySem.call f vs) := by
  refine Att.attach_call hn hdf fun w s₀ s₁ mg mb fa o pm cd doc a vs ns G Y ho hd hcd hmg hobj hints hlen hg => ?_
  have KX := hY w _ Y
  obtain ⟨fd, hb, hF⟩ := F w mg fa _ KX G.T.g hmg
  exact law_call KX G.T.g G.T.b G.T.builtins G.T.nolimit hg hobj hints (Nat.le_trans hlen hn2) hr hF hb (fun H hO hS => hsp w H a ns hlen hO hS) fun H e s' => hCX w H s₁ e s'
end L2



namespace L2
open PySem PySem.Spec PyProof.Rows

def defArgs (s : Stmt) : Arguments := match s with
  | .FunctionDef _ a _ _ _ _ _ _ _ _ => a
  | _ => { posonlyargs := [], args := [], vararg := none, kwonlyargs := [], kw_defaults := [], kwarg := none, defaults := [] }
def defBody (s : Stmt) : List Stmt := match s with
  | .FunctionDef _ _ b _ _ _ _ _ _ _ => b
  | _ => []
def defScope (s : Stmt) : Scope := match s with
  | .FunctionDef _ _ _ _ _ _ sc _ _ _ => sc
  | _ => { kind := .function, names := [], isGenerator := false, isCoroutine := false }

abbrev CX0 : CXT := fun _ _ _ _ _ _ => False
abbrev E0 : XK := fun _ _ _ => False
theorem pass0 {X : Cx} : Passes CX0 X E0 := fun _ _ _ _ _ _ _ h => h.elim

structure Fun (K : PySem.W.Frag) (x qual : Str) (st : Stmt) (f : Addr) (fd : FuncData) : Prop where
  ex : ∃ (oc : Value) (od : Option Addr) (kV doc pm : Value) (an : Option Addr) (cdv ct : Value) (osl : Array (Option Value)),
    fd = PySem.W.fnOf x qual (defArgs st) (defBody st) (defScope st) .none kV doc pm an cdv ct ∧ K.lookup f = some ⟨oc, od, .func fd, osl⟩ ∧ PySem.W.codeIn K cdv qual = true
  kp : PySem.W.keepIn K (.ref f) = true
section
variable {P : Program} {w : World} {K : PySem.W.Frag} {mg : Str → Option Value} {base : Heap}
theorem Fun.ok {x qual : Str} {st : Stmt} {f : Addr} {fd : FuncData} {N ps : List Str} {k : Nat} {sp : Sp} (F : Fun K x qual st f fd) (S : FnScope N ps (defScope st)) (len : ∀ vs H Q E, sp vs H Q E → vs.length = ps.length)
    (hbody : ∀ (cdv : Value) (A : Around) (outer : List Env) (s : Shared) (H : Hp) (vs : List V) (Q : VK) (E : XK), Room k (A.deeper (envOfC qual (defScope st) s.heap.objs.size f cdv)) → sp vs H Q E →
      ∃ t, PSs (cxOf CX0 P w K mg base N qual (defScope st) f cdv A outer s H E).nox (defBody st) t ∧ t { nx := fun _ H' => Q .non H', rt := Q } (start N vs) H) : FnOk P w K mg base CX0 (k + 1) f fd ps sp := by
  obtain ⟨oc, od, kV, doc, pm, an, cdv, ct, osl, rfl, lk, hcd⟩ := F.ex
  refine fn_of lk hcd S len fun A outer s H vs Q E hr hsp => ?_
  obtain ⟨t, h, q⟩ := hbody cdv A outer s H vs Q E hr hsp
  exact ⟨t, h.nox, q⟩
theorem Fun.binds {x qual : Str} {st : Stmt} {f : Addr} {fd : FuncData} {ps : List Str} (F : Fun K x qual st f fd)
    (h : ∀ (kV doc pm : Value) (an : Option Addr) (cdv ct : Value) (us : List Value), us.length = ps.length → bindArgs (PySem.W.fnOf x qual (defArgs st) (defBody st) (defScope st) .none kV doc pm an cdv ct) ⟨us, []⟩ = pure (ps.zip us)) : Binds K fd ps [] := by
  obtain ⟨oc, od, kV, doc, pm, an, cdv, ct, osl, rfl, lk, hcd⟩ := F.ex
  exact .all (h kV doc pm an cdv ct)
theorem fun_mk {x qual : Str} {st : Stmt} {f : Addr} {oc : Value} {od an : Option Addr} {osl : Array (Option Value)} {kV doc pm cdv ct : Value} (l : K.lookup f = some ⟨oc, od, .func (PySem.W.fnOf x qual (defArgs st) (defBody st) (defScope st) .none kV doc pm an cdv ct), osl⟩)
    (c : PySem.W.codeIn K cdv qual = true) (k : PySem.W.keepIn K (.ref f) = true) : Fun K x qual st f (PySem.W.fnOf x qual (defArgs st) (defBody st) (defScope st) .none kV doc pm an cdv ct) := ⟨⟨oc, od, kV, doc, pm, an, cdv, ct, osl, rfl, l, c⟩, k⟩
end
theorem hu_of {A : Around} {k : Nat} (hr : Room k A) : A.units + 1 < cLine := Nat.lt_of_le_of_lt (Nat.add_le_add_left (by decide : 1 ≤ 64) _) hr.units
theorem small1000 {n : Nat} (h : n ≤ 1000) : n < sizeLine := Nat.lt_of_le_of_lt h (by decide)

section
variable {X : Cx}
theorem pv (i : Nat) {x : Str} {pos : Pos} (hN : X.N[i]? = some x := by rfl) (hv : Vis X.env.scope x := by first | exact Or.inl rfl | exact Or.inr (Or.inl rfl) | exact Or.inr (Or.inr rfl)) (hd : (x == ("__debug__" : Str)) = false := by decide)
    (hcd : (x == ("__classdict__" : Str)) = false := by decide) : PE X (.Name x pos) (tVar i) := pe_var hN hv hd hcd
inductive r_call_lenDI (xs : List V) (H : Hp) (Q : VK) : Prop
  | mk (a : _) (kvs : _) (h0_ : xs = [V.ref a]) (h1_ : H a = some (.dK kvs)) (h2_ : Q (.int kvs.length) H) : r_call_lenDI xs H Q
end

theorem iteF {A B : Prop} (h : B) : if false = true then A else B := by
  rw [if_neg Bool.false_ne_true]
  exact h
theorem iteT {A B : Prop} (h : A) : if true = true then A else B := by
  rw [if_pos rfl]
  exact h
theorem ite2 {c A B : Prop} [Decidable c] (h1 : c → A) (h2 : ¬ c → B) : if c then A else B := by
  by_cases h : c
  · rw [if_pos h]
    exact h1 h
  · rw [if_neg h]
    exact h2 h
def Same (H H' : Hp) : Prop := ∀ b o, H b = some o → H' b = some o
theorem Same.refl (H : Hp) : Same H H := fun _ _ h => h
theorem Same.trans {H H1 H2 : Hp} (a : Same H H1) (b : Same H1 H2) : Same H H2 := fun c o h => b c o (a c o h)
theorem Same.free {H H' : Hp} (e : Same H H') {l : Addr} (h : H' l = Option.none) : H l = Option.none := by
  cases q : H l with
  | none => rfl
  | some o =>
    rw [e l o q] at h
    cases h
theorem Same.seq {K : PySem.W.Frag} {H H' : Hp} {a : Addr} {xs : List V} (e : Same H H') (h : SqL K H a xs) : SqL K H' a xs := by
  rcases h with (h | ⟨o, h⟩) | h
  · exact .inl (.inl (e _ _ h))
  · exact .inl (.inr ⟨o, e _ _ h⟩)
  · exact .inr h

section
variable {κ : Type} [DecidableEq κ]
theorem valV_not {kvs : List (κ × V)} {k : κ} (h : valV kvs k = none) : ¬ k ∈ kvs.map (·.1) := by
  intro m
  obtain ⟨p, hp, e⟩ := List.mem_map.mp m
  have q : (kvs.any fun kv => decide (kv.1 = k)) = true := List.any_eq_true.mpr ⟨p, hp, decide_eq_true e⟩
  rw [valV_any, h] at q
  exact absurd q (by simp)
theorem valV_in {kvs : List (κ × V)} {k : κ} {v : V} (h : valV kvs k = some v) : k ∈ kvs.map (·.1) := by
  have q : (kvs.any fun kv => decide (kv.1 = k)) = true := by
    rw [valV_any, h]
    all_goals rfl
  obtain ⟨p, hp, e⟩ := List.any_eq_true.mp q
  exact List.mem_map.mpr ⟨p, hp, of_decide_eq_true e⟩
end
end L2

set_option Elab.async false
set_option linter.all false
set_option maxRecDepth 100000
set_option maxHeartbeats 4000000
namespace L2
open PySem PySem.Spec PyProof.Rows
theorem comp_turns {prog : Program} {w : World} {A : Around} {R : Result → Shared → Prop} {elt tg iter : Expr} {ifs : List Expr} {scope : Scope} {pos : Pos} {it acc : Value} {env : Env} (Iv : Nat → Shared → Prop)
    (step : ∀ n s, Iv n s → wpAny (model prog w) A (pyNext it) (fun r s1 => match r with
      | none => R (.ok .next) s1
      | some v => wpAny (model prog w) A (letOwnedTupleGo tg it v) (fun _ s2 => wpAny (model prog w) A (assign tg env v) (fun _ s3 =>
          wpAny (model prog w) A (forIn ifs true fun c r => if r = true then do let ok ← isTrue c env (eval c env); pure (ForInStep.yield ok) else pure (ForInStep.yield r)) (fun ok s4 =>
            if ok = true then wpAny (model prog w) A (eval elt env) (fun y s5 => wpAny (model prog w) A (call (.builtin "list.append") [acc, y]) (fun _ s6 => ∃ m, m < n ∧ Iv m s6) (fun _ _ => False) s5) (fun _ _ => False) s4
            else ∃ m, m < n ∧ Iv m s4) (fun _ _ => False) s3) (fun _ _ => False) s2) (fun _ _ => False) s1) (fun _ _ => False) s)
    (n : Nat) {s : Shared} (h : Iv n s) : codeAny (model prog w) A (.compLoop (.ListComp elt [⟨tg, iter, ifs, 0⟩] scope pos) 0 it acc env) R s := by
  have up : ∀ {α : Type} {t : Sem α} {Q : α → Shared → Prop} {E : Value → Shared → Prop} {s : Shared}, wpAny (model prog w) A t Q (fun _ _ => False) s → wpAny (model prog w) A t Q E s :=
    fun h => wpAny_mono h (fun _ _ q => q) fun _ _ z => z.elim
  refine codeAny_loop rfl Iv (fun k s hI => ?_) n h
  show wpAny _ A ((compTurn (.ListComp elt [⟨tg, iter, ifs, 0⟩] scope pos) 0 it acc env).onRaise (fun x => do noteFrame x env; theTreesLotGoes x)) _ _ s
  refine wpAny_noted ?_
  rw [compTurn_list]
  refine wpAny_bind (wpAny_standAt (wpAny_bind (wpAny_mono (up (step k s hI)) (fun r s1 h1 => ?_) fun _ _ z => z)))
  cases r with
  | none => exact wpAny_pure h1
  | some v =>
    refine wpAny_bind (wpAny_mono (up h1) (fun _ s2 h2 => ?_) fun _ _ z => z)
    refine wpAny_bind (wpAny_mono (up h2) (fun _ s3 h3 => ?_) fun _ _ z => z)
    refine wpAny_bind (wpAny_mono (up h3) (fun ok s4 h4 => ?_) fun _ _ z => z)
    cases ok with
    | false => exact wpAny_pure ⟨rfl, h4⟩
    | true =>
      have h4 : wpAny (model prog w) A (eval elt env) (fun y s5 => wpAny (model prog w) A (call (.builtin "list.append") [acc, y]) (fun _ s6 => ∃ m, m < k ∧ Iv m s6) (fun _ _ => False) s5) (fun _ _ => False) s4 := h4
      exact wpAny_bind (wpAny_bind (wpAny_mono (up h4) (fun y s5 h5 => wpAny_bind (wpAny_mono (up h5) (fun _ s6 h6 => wpAny_pure (wpAny_pure ⟨rfl, h6⟩)) fun _ _ z => z)) fun _ _ z => z))

def closL (cells : List (Str × Addr)) : List (Str × NameKind) → List (Str × Addr) → List (Str × Addr)
  | [], acc => acc
  | (n, k) :: r, acc => if k == .free then closL cells r ((n, (cells.lookup n).getD 0) :: acc) else closL cells r acc
theorem closL_lookup {cells : List (Str × Addr)} {x : Str} {c : Addr} : ∀ (names : List (Str × NameKind)) (acc : List (Str × Addr)), (∀ p ∈ names, p.2 = .free → ∃ c, cells.lookup p.1 = some c) →
    (∀ y d, acc.lookup y = some d → cells.lookup y = some d) → (closL cells names acc).lookup x = some c → cells.lookup x = some c
  | [], acc, _, h2, h => h2 x c h
  | (n, k) :: r, acc, h1, h2, h => by
    unfold closL at h
    by_cases hk : (k == NameKind.free) = true
    · rw [if_pos hk] at h
      have ek : k = .free := by simpa using hk
      obtain ⟨d, hd⟩ := h1 (n, k) List.mem_cons_self ek
      refine closL_lookup r _ (fun p hp => h1 p (List.mem_cons_of_mem _ hp)) (fun y e hy => ?_) h
      rw [List.lookup_cons] at hy
      cases hyn : y == n with
      | true =>
        rw [hyn] at hy
        have : y = n := by simpa using hyn
        subst this
        have hd' : List.lookup y cells = some d := hd
        rw [hd'] at hy ⊢
        exact hy
      | false =>
        rw [hyn] at hy
        exact h2 y e hy
    · rw [if_neg hk] at h
      exact closL_lookup r acc (fun p hp => h1 p (List.mem_cons_of_mem _ hp)) h2 h
theorem closL_has {cells : List (Str × Addr)} {x : Str} : ∀ (names : List (Str × NameKind)) (acc : List (Str × Addr)), ((acc.lookup x).isSome = true ∨ (x, NameKind.free) ∈ names) → ((closL cells names acc).lookup x).isSome = true
  | [], acc, h => h.elim (fun z => z) fun z => nomatch z
  | (n, k) :: r, acc, h => by
    unfold closL
    by_cases hk : (k == NameKind.free) = true
    · rw [if_pos hk]
      refine closL_has r _ ?_
      rcases h with h | h
      · refine .inl ?_
        rw [List.lookup_cons]
        cases x == n <;> simp [h]
      · rcases List.mem_cons.mp h with e | e
        · refine .inl ?_
          have : x = n := congrArg Prod.fst e
          subst this
          rw [List.lookup_cons]
          simp
        · exact .inr e
    · rw [if_neg hk]
      refine closL_has r _ ?_
      rcases h with h | h
      · exact .inl h
      · rcases List.mem_cons.mp h with e | e
        · have : NameKind.free = k := congrArg Prod.snd e
          subst this
          exact absurd rfl hk
        · exact .inr e
theorem closureFor_closL {scope : Scope} {env : Env} (h : ∀ p ∈ scope.names, p.2 = .free → ∃ c, env.cells.lookup p.1 = some c) : closureFor scope env = pure (closL env.cells scope.names []) := by
  have go : ∀ (names : List (Str × NameKind)) (acc : List (Str × Addr)), (∀ p ∈ names, p.2 = .free → ∃ c, env.cells.lookup p.1 = some c) →
      (forIn names acc (fun (x : Str × NameKind) r => if (x.2 == NameKind.free) = true then do let a ← cellOf env x.1; pure (ForInStep.yield ((x.1, a) :: r)) else pure (ForInStep.yield r)) : Sem (List (Str × Addr))) = pure (closL env.cells names acc) := by
    intro names
    induction names with
    | nil => intro acc _; rfl
    | cons p r ih =>
      intro acc h1
      obtain ⟨n, k⟩ := p
      rw [List.forIn_cons]
      unfold closL
      by_cases hk : (k == NameKind.free) = true
      · have ek : k = .free := by simpa using hk
        obtain ⟨c, hc⟩ := h1 (n, k) List.mem_cons_self ek
        have hc : List.lookup n env.cells = some c := hc
        have e : cellOf env n = pure c := by unfold cellOf; rw [hc]
        simp only [hk, if_true, e, hc, Option.getD_some]
        exact ih _ fun p hp => h1 p (List.mem_cons_of_mem _ hp)
      · simp only [hk, if_false]
        exact ih _ fun p hp => h1 p (List.mem_cons_of_mem _ hp)
  unfold closureFor
  exact Eq.trans (congrArg (fun t : Sem (List (Str × Addr)) => t >>= fun cs => pure cs) (go scope.names [] h)) rfl
end L2

namespace L2
open PySem PySem.Spec PyProof.Rows
def relG (env : Env) (n : Str) (k : NameKind) : NameKind := if (k == .free && env.scope.kind == .function && env.kindOf n == some .cell) = true then .cell else k
theorem lookup_kinds {g : Str → NameKind → NameKind} (y : Str) : ∀ names : List (Str × NameKind), (names.map fun p => (p.1, g p.1 p.2)).lookup y = (names.lookup y).map (g y)
  | [] => rfl
  | (n, k) :: r => by
    rw [List.map_cons, List.lookup_cons, List.lookup_cons]
    cases e : y == n with
    | true =>
      have : y = n := by simpa using e
      subst this
      rfl
    | false => exact lookup_kinds y r
theorem relabel_lookup (scope : Scope) (env : Env) (y : Str) : (relabel scope env).names.lookup y = (scope.names.lookup y).map (relG env y) := by
  have e : (relabel scope env).names = scope.names.map fun p => (p.1, relG env p.1 p.2) := by
    unfold relabel
    refine List.map_congr_left fun p _ => ?_
    obtain ⟨n, k⟩ := p
    show (if (k == NameKind.free && env.scope.kind == .function && env.kindOf n == some .cell) = true then (n, NameKind.cell) else (n, k)) = (n, if (k == NameKind.free && env.scope.kind == .function && env.kindOf n == some .cell) = true then NameKind.cell else k)
    by_cases h : (k == NameKind.free && env.scope.kind == .function && env.kindOf n == some .cell) = true
    · rw [if_pos h, if_pos h]
    · rw [if_neg h, if_neg h]
  rw [e]
  exact lookup_kinds y _
def pickS (σ : St) (fs : List Nat) : St := fs.map fun i => (σ[i]?).join
theorem pickS_get {σ : St} {fs : List Nat} {j : Nat} {v : V} (h : (pickS σ fs)[j]? = some (some v)) : ∃ i, fs[j]? = some i ∧ σ[i]? = some (some v) := by
  unfold pickS at h
  rw [List.getElem?_map] at h
  cases e : fs[j]? with
  | none => rw [e] at h; cases h
  | some i =>
    rw [e] at h
    refine ⟨i, rfl, ?_⟩
    have h' : (σ[i]?).join = some v := Option.some.inj h
    cases e2 : σ[i]? with
    | none => rw [e2] at h'; cases h'
    | some o =>
      rw [e2] at h'
      have h' : o = some v := h'
      rw [h']
structure CompOk (X : Cx) (scope : Scope) (x : Str) (fv : List Str) (fs : List Nat) : Prop where
  kind : scope.kind = .function
  nocell : ∀ p ∈ scope.names, p.2 ≠ .cell
  names : ∀ p ∈ scope.names, p.2 = .local → scope.names.lookup p.1 = some .local
  tg : scope.names.lookup x = some .local
  free : ∀ p ∈ scope.names, p.2 = .free → X.env.scope.names.lookup p.1 = some .cell
  nd : (x :: fv).Nodup
  fvs : ∀ (j : Nat) y, fv[j]? = some y → ∃ i, fs[j]? = some i ∧ X.N[i]? = some y ∧ scope.names.lookup y = some .free
  len : fv.length = fs.length
def compChk (sc : Scope) (N : List Str) (scope : Scope) (x : Str) (fv : List Str) (fs : List Nat) : Bool :=
  scope.kind == .function && (scope.names.all fun p => p.2 != .cell) && (scope.names.all fun p => p.2 != .local || scope.names.lookup p.1 == some .local) && scope.names.lookup x == some .local &&
  (scope.names.all fun p => p.2 != .free || sc.names.lookup p.1 == some .cell) && decide (x :: fv).Nodup && fs.map (N[·]?) == fv.map some && (fv.all fun y => scope.names.lookup y == some .free)
theorem CompOk.of {X : Cx} {scope : Scope} {x : Str} {fv : List Str} {fs : List Nat} (h : compChk X.env.scope X.N scope x fv fs = true) : CompOk X scope x fv fs := by
  unfold compChk at h
  simp only [Bool.and_eq_true, List.all_eq_true, Bool.or_eq_true, bne_iff_ne, beq_iff_eq, decide_eq_true_eq] at h
  obtain ⟨⟨⟨⟨⟨⟨⟨h1, h2⟩, h3⟩, h4⟩, h5⟩, h6⟩, h7⟩, h8⟩ := h
  have hlen : fs.length = fv.length := by
    have := congrArg List.length h7
    simpa using this
  refine ⟨h1, h2, fun p hp hk => (h3 p hp).resolve_left fun z => z hk, h4, fun p hp hk => (h5 p hp).resolve_left fun z => z hk, h6, fun j y e => ?_, hlen.symm⟩
  have hj : j < fv.length := (List.getElem?_eq_some_iff.mp e).1
  have e7 := congrArg (fun l => l[j]?) h7
  simp only [List.getElem?_map, e] at e7
  have hj' : j < fs.length := by omega
  rw [List.getElem?_eq_getElem hj'] at e7
  refine ⟨fs[j], List.getElem?_eq_getElem hj', ?_, h8 y (List.mem_of_getElem? e)⟩
  simpa using e7
abbrev compX (X : Cx) (N' : List Str) (scope : Scope) (C : Addr) (s0 : Shared) (H0 : Hp) (fp : List Addr) : Cx where
  prog := X.prog
  w := X.w
  K := X.K
  mg := X.mg
  base := X.base
  A := X.A
  N := N'
  s₀ := s0
  H₀ := H0
  env := compEnvC scope (closL X.env.cells scope.names []) C X.env
  outer := X.stack
  stack := X.stack
  ex := fp
  fn := fun _ => false
  calm := X.calm
  pn := []
  xe := fun _ _ => False
section
variable {X : Cx} {pins : List (Addr × Obj)} {σ : St} {H H' : Hp} {s s' : Shared} {scope : Scope} {x : Str} {fv : List Str} {fs : List Nat} {fp : List Addr}
theorem CompOk.cells (ok : CompOk X scope x fv fs) (I : Inv X pins σ H s) : ∀ p ∈ scope.names, p.2 = .free → ∃ c, X.env.cells.lookup p.1 = some c := fun p hp hk => I.ok.has p.1 (.inl (ok.free p hp hk))
theorem CompOk.look (ok : CompOk X scope x fv fs) (I : Inv X pins σ H s) {y : Str} {c : Addr} (h : (closL X.env.cells scope.names []).lookup y = some c) : X.env.cells.lookup y = some c :=
  closL_lookup scope.names [] (ok.cells I) (fun _ _ z => by cases z) h
theorem comp_enter (ok : CompOk X scope x fv fs) (I : Inv X pins σ H s) (hf : ∀ b ∈ fp, FpOk X pins H b) (hfo : ∀ b ∈ fp, ∃ o, s.heap.get? b = some o) {h1 : Heap} {m : Str → Option Value} {tk : Nat} (hn : h1.Ns s.heap.objs.size m)
    (kept : ∀ b o, s.heap.get? b = some o → h1.get? b = some o) : Inv (compX X (x :: fv) scope s.heap.objs.size s H fp) [] (none :: pickS σ fs) H { s with heap := h1, toks := tk } := by
  have cl := fun {y c} => ok.look I (y := y) (c := c)
  have hkk : X.env.scope.kind = .function := I.ok.kind
  refine ⟨⟨I.ok.mod, ok.kind, I.ok.glob, I.ok.blt, Nat.le_refl _, fun y z c h1 h2 => I.ok.inj y z c (cl h1) (cl h2), fun y hy => ?_, fun y c hfn _ => (by cases hfn), I.ok.hd, I.ok.frames, .inl rfl, fun b hb => ⟨?_, fun y c e z => (hf b hb).2.2.2.2.1 y c (cl e) z⟩, I.bs,
    Nat.le_trans I.ok.bsz I.sz, fun b o e hb => ?_, fun b hb hbf => ?_, I.stack, I.stkFree⟩, rfl, I.bare, Un.kept kept, ⟨m, hn, fun i y v e1 e2 e3 => ?_⟩, fun y c e => ?_, I.fresh, fun y c e => I.freeC y c (cl e), fun p hp => absurd (show p ∈ ([] : List (Addr × Obj)) from hp) (by simp), I.hok.kept kept, ?_⟩
  · have hy : (relabel scope X.env).names.lookup y = some .cell ∨ (relabel scope X.env).names.lookup y = some .free := hy
    rw [relabel_lookup] at hy
    have hfr : scope.names.lookup y = some .free := by
      cases e : scope.names.lookup y with
      | none => rw [e] at hy; rcases hy with z | z <;> cases z
      | some k =>
        rw [e] at hy
        have hy : relG X.env y k = .cell ∨ relG X.env y k = .free := hy.elim (fun z => .inl (Option.some.inj z)) fun z => .inr (Option.some.inj z)
        by_cases hk : k = .free
        · rw [hk]
        · have e2 : relG X.env y k = k := by
            unfold relG
            have : (k == NameKind.free) = false := by simpa using hk
            rw [this]
            rfl
          rw [e2] at hy
          rcases hy with z | z
          · subst z
            exact absurd rfl (ok.nocell _ (PySem.mem_of_lookup e))
          · exact absurd z hk
    exact Option.isSome_iff_exists.mp (closL_has scope.names [] (.inr (PySem.mem_of_lookup hfr)))
  · obtain ⟨o, ho⟩ := hfo b hb
    exact Nat.ne_of_lt (Heap.lt_size ho)
  · rcases (hf b hb).2.2.2.1 with z | z
    · exact I.ok.noex b o e z
    · exact absurd (Nat.lt_of_lt_of_le (Heap.lt_size e) (Nat.le_trans I.ok.bsz z)) (Nat.lt_irrefl _)
  · rcases List.mem_cons.mp (I.stkSub b hbf) with z | z
    · exact (hf b hb).2.1 z
    · exact (hf b hb).2.2.1 z
  · cases i with
    | zero =>
      have e2 : (some none : Option (Option V)) = some (some v) := e2
      cases e2
    | succ j =>
      have e1 : fv[j]? = some y := e1
      have e2 : (pickS σ fs)[j]? = some (some v) := e2
      obtain ⟨i, g1, g2⟩ := pickS_get e2
      obtain ⟨i', g3, g4, g5⟩ := ok.fvs j y e1
      rw [g1] at g3
      cases g3
      have gk : X.env.scope.names.lookup y = some .cell := ok.free (y, .free) (PySem.mem_of_lookup g5) rfl
      obtain ⟨m0, _, hl0⟩ := I.loc
      obtain ⟨u, r, l⟩ := hl0 i y v g4 g2 (.inr (.inl gk))
      refine ⟨u, r, ?_⟩
      rcases l with ⟨k, _⟩ | ⟨_, c, e, o, ho, hd⟩
      · have k : X.env.scope.names.lookup y = some .local := k
        rw [gk] at k
        cases k
      · obtain ⟨c', hc'⟩ := Option.isSome_iff_exists.mp (closL_has (cells := X.env.cells) scope.names [] (.inr (PySem.mem_of_lookup g5)))
        have := cl hc'
        rw [e] at this
        cases this
        refine .inr ⟨.inl ?_, c, hc', o, kept _ _ ho, hd⟩
        show (relabel scope X.env).names.lookup y = some .cell
        rw [relabel_lookup, g5]
        show some (relG X.env y .free) = _
        have gk' : X.env.kindOf y = some .cell := gk
        unfold relG
        rw [hkk, gk']
        rfl
  · obtain ⟨v, o, ho, hd⟩ := I.cell y c (cl e)
    exact ⟨v, o, kept _ _ ho, hd⟩
  · show (none :: pickS σ fs).length = (x :: fv).length
    simp [pickS, ok.len]
theorem comp_leave {σ' : St} {C : Addr} {N' : List Str} (I : Inv X pins σ H s) (hf : ∀ b ∈ fp, FpOk X pins H b) (I' : Inv (compX X N' scope C s H fp) [] σ' H' s') : Inv X pins σ H' s' :=
  I.call' (ch := fp) I'.os I'.base I'.hok I'.bare fun b hb => ⟨(hf b hb).2.2.2.1, (hf b hb).2.1, (hf b hb).2.2.2.2.1, (hf b hb).2.2.2.2.2⟩
theorem Inv.off {C : Addr} {h' : Heap} (I : Inv X pins σ H s) (f : FpOk X pins H C) (hs : Heap.SameBut C s.heap h') : Inv X pins σ H { s with heap := h' } :=
  I.turned (t' := s.toks) (fun b o hb e => hs.extBut b o hb e) f.1 (fun z => f.2.1 z) f.2.2.2.1 f.2.2.2.2.1 f.2.2.2.2.2
end

def PTs (X : Cx) (ifs : List Expr) (t : TT) : Prop :=
  ∀ (pins : List (Addr × Obj)) (s : Shared) (σ : St) (H : Hp) (Q : Bool → Hp → Prop), Inv X pins σ H s → t σ H Q →
    wpAny (model X.prog X.w) X.A (forIn ifs true fun c r => if r = true then do let ok ← isTrue c X.env (eval c X.env); pure (ForInStep.yield ok) else pure (ForInStep.yield r)) (TP X pins σ Q) X.xe s
def tYes : TT := fun _ H Q => Q true H
theorem pts_nil {X : Cx} : PTs X [] tYes := fun _ _ _ H _ I h => wpAny_tests_nil ⟨H, I, h⟩
theorem pts_one {X : Cx} {c : Expr} {t : TT} (h : PT X c t) : PTs X [c] t := fun pins s σ H Q I q => wpAny_tests_one (h pins s σ H Q I q)

def CompRd (J : It) (tc : TT) (te : TE) (fs : List Nat) (σ : St) (H : Hp) (Q : VK) : Prop := ∀ D, H D = none → ∃ W : Nat → Nat → Hp → Prop, (∃ m, W 0 m (upd H D (.lst []))) ∧ ∀ i m H2, W i m H2 →
  (J.stop i H2 ∧ Q (.ref D) H2) ∨ (J.go i H2 ∧ ∀ v H3, J.yld i H2 v H3 → tc (some v :: pickS σ fs) H3 fun ok H4 =>
    if ok = true then te (some v :: pickS σ fs) H4 fun y H5 => ∃ ys, H5 D = some (.lst ys) ∧ ys.length < sizeLine ∧ ∃ m', m' < m ∧ W (i + 1) m' (upd H5 D (.lst (ys ++ [y]))) else ∃ m', m' < m ∧ W (i + 1) m' H4)
def tComp (wi : TI) (tc : TT) (te : TE) (fs : List Nat) : TE := fun σ H Q => wi σ H fun J H1 => CompRd J tc te fs σ H1 Q
section
variable {X : Cx} {elt iter : Expr} {x : Str} {px pos : Pos} {ifs : List Expr} {scope : Scope} {fv : List Str} {fs : List Nat} {wi : TI} {te : TE} {tc : TT}
theorem comp_run (hc : X.calm = true) (ok : CompOk X scope x fv fs) (hts : ∀ C s0 H0 fp, PTs (compX X (x :: fv) scope C s0 H0 fp) ifs tc) (he : ∀ C s0 H0 fp, PE (compX X (x :: fv) scope C s0 H0 fp) elt te)
    {pins : List (Addr × Obj)} {σ : St} {H : Hp} {s : Shared} {E : Value → Shared → Prop} {it : Addr} {fp : List Addr} {tn : Nat → Heap → Prop} {J : It} {Q : VK} (I : Inv X pins σ H s) (T : Turn X.prog X.w X.K (.Name x px) J fp it tn) (st : tn 0 s.heap)
    (hf : ∀ b ∈ fp, FpOk X pins H b)
    (rd : CompRd J tc te fs σ H Q)
    {RR : Value → Addr → Result → Shared → Prop}
    (hRR : ∀ D C s' H', Inv X pins σ H' s' → FpOk X pins H' C → (∃ m, s'.heap.Ns C m) → Q (.ref D) H' → RR (.ref D) C (.ok .next) s') :
    wpAny (model X.prog X.w) X.A (newList []) (fun acc s3 => wpAny (model X.prog X.w) X.A (newFunctionEnv scope X.env.globals (closL X.env.cells scope.names []) [] X.env.qual none .none (some X.env)) (fun cenv s4 =>
      codeAny (model X.prog X.w) X.A (.compStart (.ListComp elt [⟨.Name x px, iter, ifs, 0⟩] scope pos) 0 (.ref it) acc { cenv with scope := relabel scope X.env }) (RR acc cenv.locals) s4) E s3) E s := by
  obtain ⟨W, ⟨m0, w0⟩, turn⟩ := rd s.heap.objs.size I.fresh
  have I3 : Inv X pins σ (upd H s.heap.objs.size (.lst [])) { s with heap := s.heap.push { cls := .type "list", dict := none, data := .seq ([] : List Value).toArray } } := I.lnew (its := []) (ys := []) (t' := s.toks) .nil (Nat.zero_le _)
  refine wpAny_newObj_type ?_
  show wpAny _ _ _ _ _ ({ s with heap := s.heap.push { cls := .type "list", dict := none, data := .seq ([] : List Value).toArray } } : Shared)
  generalize hs3 : ({ s with heap := s.heap.push { cls := .type "list", dict := none, data := .seq ([] : List Value).toArray } } : Shared) = s3 at I3 ⊢
  refine wpAny_newFunctionEnv ok.nocell (fun y hy => absurd hy (by simp)) (fun h1 hns hsb => ?_) ok.kind
  have eh : s3.heap = s.heap.push { cls := .type "list", dict := none, data := .seq ([] : List Value).toArray } := by rw [← hs3]
  have up3 : ∀ b o, s.heap.get? b = some o → s3.heap.get? b = some o := fun b o e => by rw [eh]; exact Heap.get?_push_of_some _ e
  have hfo : ∀ b ∈ fp, ∃ o, s3.heap.get? b = some o := fun b hb => let ⟨o, ho, _⟩ := T.obj 0 _ st b hb; ⟨o, up3 b o ho⟩
  have neD : ∀ b ∈ fp, b ≠ s.heap.objs.size := fun b hb => let ⟨o, ho, _⟩ := T.obj 0 _ st b hb; Nat.ne_of_lt (Heap.lt_size ho)
  have hf3 : ∀ b ∈ fp, FpOk X pins (upd H s.heap.objs.size (.lst [])) b := fun b hb => ⟨by rw [upd_ne (neD b hb)]; exact (hf b hb).1, (hf b hb).2⟩
  have kept : ∀ b o, s3.heap.get? b = some o → h1.get? b = some o := fun b o e => hsb.extBut b o (Nat.ne_of_lt (Heap.lt_size e)) (Heap.get?_push_of_some _ e)
  have I4 := comp_enter (tk := s3.toks + ([] : List (Str × Value)).length) ok I3 hf3 hfo hns kept
  have st4 : tn 0 h1 := T.keep 0 _ _ st fun b hb o e => kept b o (up3 b o e)
  have stat : ∀ {H' : Hp}, (∀ b ∈ fp, H' b = none) → ∀ b ∈ fp, FpOk (compX X (x :: fv) scope s3.heap.objs.size s3 (upd H s.heap.objs.size (.lst [])) fp) [] H' b := fun hn b hb =>
    ⟨hn b hb, (I4.ok.exf b hb).1, I4.ok.exfs b hb, .inl hb, (I4.ok.exf b hb).2, fun p hp => absurd hp (by simp)⟩
  have hg : PG (compX X (x :: fv) scope s3.heap.objs.size s3 (upd H s.heap.objs.size (.lst [])) fp) (.Name x px) (gName 0) := pg_name ok.nd rfl (.inl (lookup_relabel_local ok.tg)) (.inr (lookup_relabel_local ok.tg))
  have loop : codeAny (model X.prog X.w) X.A (.compLoop (.ListComp elt [⟨.Name x px, iter, ifs, 0⟩] scope pos) 0 (.ref it) (.ref s.heap.objs.size) (compEnvC scope (closL X.env.cells scope.names []) s3.heap.objs.size X.env)) (RR (.ref s.heap.objs.size) s3.heap.objs.size)
      { s3 with heap := h1, toks := s3.toks + ([] : List (Str × Value)).length } := by
    refine comp_turns (fun n s' => ∃ i o H', Inv (compX X (x :: fv) scope s3.heap.objs.size s3 (upd H s.heap.objs.size (.lst [])) fp) [] (o :: pickS σ fs) H' s' ∧ tn i s'.heap ∧ (∀ b ∈ fp, H' b = none) ∧ W i n H') ?_ m0
      ⟨0, none, _, I4, st4, fun b hb => (hf3 b hb).1, w0⟩
    rintro n s5 ⟨i, o, H5, I5, st5, fr5, w5⟩
    rcases turn i n H5 w5 with ⟨stop, q⟩ | ⟨go, step⟩
    · refine thn (T.done (compX X (x :: fv) scope s3.heap.objs.size s3 (upd H s.heap.objs.size (.lst [])) fp) rfl rfl rfl hc i [] s5 _ H5 _ I5 (stat fr5) st5 stop) fun r s6 ⟨hr, I6⟩ => ?_
      subst hr
      obtain ⟨m, hm, _⟩ := I6.loc
      exact hRR _ _ s6 H5 (comp_leave I3 hf3 I6) (I3.fpOk (Nat.le_refl _) I6.free) ⟨m, hm⟩ q
    · refine thn (T.item (compX X (x :: fv) scope s3.heap.objs.size s3 (upd H s.heap.objs.size (.lst [])) fp) rfl rfl rfl hc i [] s5 _ H5 _ I5 (stat fr5) st5 go) fun r s6 ⟨u, hr, h6⟩ => ?_
      subst hr
      refine thn h6 fun _ s7 ⟨v, H7, I7, r7, y7, st7, fr7⟩ => ?_
      have I7' := I7.pinned (stat fr7) (T.obj _ _ st7)
      have back : ∀ {σ9 : St} {H9 : Hp} {s9 : Shared}, Inv (compX X (x :: fv) scope s3.heap.objs.size s3 (upd H s.heap.objs.size (.lst [])) fp) ([] ++ pinsAt fp s7.heap) σ9 H9 s9 → tn (i + 1) s9.heap ∧ ∀ b ∈ fp, H9 b = none := fun {σ9 H9 s9} I9 =>
        ⟨T.keep _ _ _ st7 fun b hb o e => (I9.pin (b, o) (mem_pinsAt hb e)).1, fun b hb => by
          obtain ⟨o, e, _⟩ := T.obj _ _ st7 b hb
          exact (I9.pin (b, o) (mem_pinsAt hb e)).2.1⟩
      refine thn (hg _ s7 _ H7 v u (fun σ2 H2 => σ2 = some v :: pickS σ fs ∧ H2 = H7) I7' r7 ⟨rfl, rfl⟩) fun _ s8 ⟨σ8, H8, I8, e8, e8'⟩ => ?_
      subst e8 e8'
      refine thn (hts _ _ _ _ _ s8 _ H8 _ I8 (step v H8 y7)) fun ok s9 ⟨H9, I9, q9⟩ => ?_
      cases ok with
      | false =>
        obtain ⟨m', hm', w9⟩ := q9
        obtain ⟨b1, b2⟩ := back I9
        exact ⟨m', hm', i + 1, some v, H9, I9.unpinned, b1, b2, w9⟩
      | true =>
        refine thn (he _ _ _ _ _ s9 _ H9 _ I9 q9) fun y s10 ⟨yv, H10, I10, r10, ys, hD, hz, m', hm', w10⟩ => ?_
        refine thn (mt_append _ s10 _ H10 (.ref s.heap.objs.size) [yv] (.ref s.heap.objs.size) [y] (fun _ H' => H' = upd H10 s.heap.objs.size (.lst (ys ++ [yv]))) I10 rfl (.cons r10 .nil) ⟨_, ys, yv, rfl, rfl, hD, hz, rfl⟩) fun _ s11 ⟨_, H11, I11, _, e11⟩ => ?_
        subst e11
        obtain ⟨b1, b2⟩ := back I11
        exact ⟨m', hm', i + 1, some v, _, I11.unpinned, b1, b2, w10⟩
  exact codeAny_compStart_list loop (T.self _ 0 _ _ _ st4 loop)
theorem pe_comp (hc : X.calm = true) (ok : CompOk X scope x fv fs) (hi : PI X (.Name x px) iter wi) (hts : ∀ C s0 H0 fp, PTs (compX X (x :: fv) scope C s0 H0 fp) ifs tc) (he : ∀ C s0 H0 fp, PE (compX X (x :: fv) scope C s0 H0 fp) elt te)
    (hs : ∀ x, foldedSetIterable iter X.env x = pure x := by intro _; rfl) : PE X (.ListComp elt [⟨.Name x px, iter, ifs, 0⟩] scope pos) (tComp wi tc te fs) := by
  intro pins s σ H Q I h
  rw [eval_ListComp]
  refine wpAny_comprehension_free (use := none) rfl hs (closureFor_closL (ok.cells I)) ok.kind ok.names (thn (hi pins s σ H _ I h) fun xv s1 h1 => thn h1 fun itv s2 h2 => ?_)
  obtain ⟨it, fp, tn, J, H2, rfl, I2, T, st2, f2, rd⟩ := h2
  exact comp_run hc ok hts he I2 T st2 f2 rd fun D C s' H' I' fC ⟨m, hm⟩ q => ⟨m, hm, fun h' hs' => ⟨.ref D, H', I'.off fC hs', rfl, q⟩⟩
theorem ps_setComp {i : Nat} {y : Str} {py spos : Pos} (hc : X.calm = true) (ok : CompOk X scope x fv fs) (hN : X.N.Nodup) (hiy : X.N[i]? = some y) (hy : Loc X.env.scope y) (hi : PI X (.Name x px) iter wi) (hts : ∀ C s0 H0 fp, PTs (compX X (x :: fv) scope C s0 H0 fp) ifs tc)
    (he : ∀ C s0 H0 fp, PE (compX X (x :: fv) scope C s0 H0 fp) elt te) (hsw : swapsWith (.ListComp elt [⟨.Name x px, iter, ifs, 0⟩] scope pos) (some (.Name y py)) spos.line X.env = pure true := by rfl)
    (hfn : X.fn y = true ∨ X.env.scope.names.lookup y = some .local := by first | exact .inl rfl | exact .inr rfl | assumption)
    (hs : ∀ x, foldedSetIterable iter X.env x = pure x := by intro _; rfl) : PS X (.Assign [.Name y py] (.ListComp elt [⟨.Name x px, iter, ifs, 0⟩] scope pos) spos) (fun D σ H => tComp wi tc te fs σ H fun v H' => D.nx (σ.set i (some v)) H') := by
  intro pins s σ H D I h
  rw [exec_Assign_Name_used _ _ _ _ hsw]
  refine wpAny_bind (wpAny_standAt (wpAny_bind ?_))
  show wpAny _ X.A (comprehension (.ListComp elt [⟨.Name x px, iter, ifs, 0⟩] scope pos) scope X.env _ (newList []) false (eval iter X.env) (some (assign (.Name y py) X.env)) >>= fun _ => pure ()) _ _ s
  refine wpAny_bind (thn (wpAny_comprehension_free (use := some (assign (.Name y py) X.env)) (Q := fun _ s' => SP X pins D .next s') rfl hs (closureFor_closL (ok.cells I)) ok.kind ok.names
    (thn (hi pins s σ H _ I h) fun xv s1 h1 => thn h1 fun itv s2 h2 => ?_)) fun _ s' hq => wpAny_pure (wpAny_pure hq))
  obtain ⟨it, fp, tn, J, H2, rfl, I2, T, st2, f2, rd⟩ := h2
  refine comp_run (Q := fun v H' => D.nx (σ.set i (some v)) H') hc ok hts he I2 T st2 f2 rd fun D' C s' H' I' fC ⟨m, hm⟩ q => ?_
  show wpAny _ X.A (assign (.Name y py) X.env (.ref D')) _ _ s'
  refine wpAny_assign_Name (store_ok2 I' hN hiy hy (v := .ref D') rfl (fun s'' I'' ⟨a, hsa, ha⟩ => ?_) hfn)
  have hCa : C ≠ a := by
    rcases ha with z | z
    · rw [z]; exact fC.2.1
    · exact fun e => fC.2.2.2.2.1 y a z e.symm
  exact ⟨m, hm.sameBut hsa hCa, fun h' hs' => ⟨_, H', I''.off fC hs', q⟩⟩
end

theorem comp_pure {J : It} {tc : TT} {te : TE} {fs : List Nat} {σ : St} {H : Hp} {Q : VK} {n : Nat} (item g : Nat → V) (p : Nat → Bool) (hn : n ≤ sizeLine)
    (hgo : ∀ i D ys, i < n → H D = none → J.go i (upd H D (.lst ys)))
    (hy : ∀ i D ys v H', i < n → H D = none → J.yld i (upd H D (.lst ys)) v H' → v = item i ∧ H' = upd H D (.lst ys))
    (hst : ∀ D ys, H D = none → J.stop n (upd H D (.lst ys)))
    (hc : ∀ i D ys (R : Bool → Hp → Prop), i < n → H D = none → R (p i) (upd H D (.lst ys)) → tc (some (item i) :: pickS σ fs) (upd H D (.lst ys)) R)
    (he : ∀ i D ys (R : VK), i < n → H D = none → p i = true → R (g i) (upd H D (.lst ys)) → te (some (item i) :: pickS σ fs) (upd H D (.lst ys)) R)
    (hQ : ∀ D, H D = none → Q (.ref D) (upd H D (.lst (((List.range n).filter p).map g)))) :
    CompRd J tc te fs σ H Q := by
  intro D hD
  refine ⟨fun i m H2 => m = n - i ∧ i ≤ n ∧ H2 = upd H D (.lst (((List.range i).filter p).map g)), ⟨n, by simp⟩, ?_⟩
  rintro i m H2 ⟨rfl, hi, rfl⟩
  by_cases hlt : i < n
  · refine .inr ⟨hgo i D _ hlt hD, fun v H3 yl => ?_⟩
    obtain ⟨rfl, rfl⟩ := hy i D _ v H3 hlt hD yl
    refine hc i D _ _ hlt hD ?_
    have er : ∀ b, p i = b → ((List.range (i + 1)).filter p).map g = ((List.range i).filter p).map g ++ (if b = true then [g i] else []) := fun b hb => by
      rw [List.range_succ, List.filter_append, List.map_append]
      cases b with
      | true => simp [hb]
      | false => simp [hb]
    cases hb : p i with
    | false =>
      show ∃ m', m' < n - i ∧ _
      refine ⟨n - (i + 1), by omega, rfl, hlt, ?_⟩
      rw [er false hb]
      simp
    | true =>
      show te _ _ _
      refine he i D _ _ hlt hD hb ⟨_, upd_same, ?_, n - (i + 1), by omega, rfl, hlt, ?_⟩
      · rw [List.length_map]
        have := List.length_filter_le p (List.range i)
        rw [List.length_range] at this
        omega
      · rw [upd_upd, er true hb]
        simp
  · have e : i = n := by omega
    subst e
    exact .inl ⟨hst D _ hD, hQ D hD⟩
end L2

namespace L2
open PySem PySem.Spec PyProof.Rows
theorem Same.put {H H' : Hp} {D : Addr} {o : HO} (s : Same H H') (h : H D = none) : Same H (upd H' D o) := fun b u e => by
  rw [upd_ne (ne_of_none e h)]
  exact s b u e
theorem Same.new {H : Hp} {D : Addr} {o : HO} (h : H D = none) : Same H (upd H D o) := (Same.refl H).put h
theorem Same.tup {K : PySem.W.Frag} {H H' : Hp} {a : Addr} {xs : List V} (e : Same H H') (h : SqT K H a xs) : SqT K H' a xs := by
  rcases h with (h | ⟨o, h⟩) | h
  · exact .inl (.inl (e _ _ h))
  · exact .inl (.inr ⟨o, e _ _ h⟩)
  · exact .inr h
theorem comp_grow {J : It} {tc : TT} {te : TE} {fs : List Nat} {σ : St} {H : Hp} {Q : VK} {n : Nat} (item g : Nat → V) (p : Nat → Bool) (hn : n ≤ sizeLine)
    (hgo : ∀ i H2, i < n → Same H H2 → J.go i H2)
    (hy : ∀ i H2 v H', i < n → Same H H2 → J.yld i H2 v H' → v = item i ∧ H' = H2)
    (hst : ∀ H2, Same H H2 → J.stop n H2)
    (hc : ∀ i H2 (R : Bool → Hp → Prop), i < n → Same H H2 → (∀ H3, Same H2 H3 → R (p i) H3) → tc (some (item i) :: pickS σ fs) H2 R)
    (he : ∀ i H2 (R : VK), i < n → Same H H2 → p i = true → (∀ H3, Same H2 H3 → R (g i) H3) → te (some (item i) :: pickS σ fs) H2 R)
    (hQ : ∀ D H2, H D = none → Same H H2 → H2 D = some (.lst (((List.range n).filter p).map g)) → Q (.ref D) H2) :
    CompRd J tc te fs σ H Q := by
  intro D hD
  refine ⟨fun i m H2 => m = n - i ∧ i ≤ n ∧ Same H H2 ∧ H2 D = some (.lst (((List.range i).filter p).map g)), ⟨n, by simp, Nat.zero_le _, Same.new hD, upd_same⟩, ?_⟩
  rintro i m H2 ⟨rfl, hi, s2, d2⟩
  by_cases hlt : i < n
  · refine .inr ⟨hgo i H2 hlt s2, fun v H3 yl => ?_⟩
    obtain ⟨rfl, rfl⟩ := hy i H2 v H3 hlt s2 yl
    have er : ∀ b, p i = b → ((List.range (i + 1)).filter p).map g = ((List.range i).filter p).map g ++ (if b = true then [g i] else []) := fun b hb => by
      rw [List.range_succ, List.filter_append, List.map_append]
      cases b with
      | true => simp [hb]
      | false => simp [hb]
    refine hc i _ _ hlt s2 fun H4 s4 => ?_
    cases hb : p i with
    | false =>
      show ∃ m', m' < n - i ∧ _
      refine ⟨n - (i + 1), by omega, rfl, hlt, s2.trans s4, ?_⟩
      rw [er false hb, s4 _ _ d2]
      simp
    | true =>
      show te _ _ _
      refine he i _ _ hlt (s2.trans s4) hb fun H5 s5 => ⟨_, s5 _ _ (s4 _ _ d2), ?_, n - (i + 1), by omega, rfl, hlt, ((s2.trans s4).trans s5).put hD, ?_⟩
      · rw [List.length_map]
        have := List.length_filter_le p (List.range i)
        rw [List.length_range] at this
        omega
      · rw [upd_same, er true hb]
        simp
  · have e : i = n := by omega
    subst e
    exact .inl ⟨hst H2 s2, hQ D H2 hD s2 d2⟩
theorem comp_rel {J : It} {te : TE} {fs : List Nat} {σ : St} {H : Hp} {Q : VK} {n : Nat} (item : Nat → V) (Ok : Nat → V → Prop) (hn : n ≤ sizeLine)
    (hgo : ∀ i H2, i < n → Same H H2 → J.go i H2)
    (hy : ∀ i H2 v H', i < n → Same H H2 → J.yld i H2 v H' → v = item i ∧ H' = H2)
    (hst : ∀ H2, Same H H2 → J.stop n H2)
    (he : ∀ i H2 (R : VK), i < n → Same H H2 → (∀ y H3, Same H2 H3 → Ok i y → R y H3) → te (some (item i) :: pickS σ fs) H2 R)
    (hQ : ∀ D H2 ys, H D = none → Same H H2 → H2 D = some (.lst ys) → ys.length = n → (∀ (i : Nat) y, ys[i]? = some y → Ok i y) → Q (.ref D) H2) :
    CompRd J tYes te fs σ H Q := by
  intro D hD
  refine ⟨fun i m H2 => m = n - i ∧ i ≤ n ∧ Same H H2 ∧ ∃ ys, H2 D = some (.lst ys) ∧ ys.length = i ∧ ∀ (j : Nat) y, ys[j]? = some y → Ok j y, ⟨n, by simp, Nat.zero_le _, Same.new hD, [], upd_same, rfl, fun j y z => by simp at z⟩, ?_⟩
  rintro i m H2 ⟨rfl, hi, s2, ys, d2, ly, oy⟩
  by_cases hlt : i < n
  · refine .inr ⟨hgo i H2 hlt s2, fun v H3 yl => ?_⟩
    obtain ⟨rfl, rfl⟩ := hy i H2 v H3 hlt s2 yl
    show te _ _ _
    refine he i _ _ hlt s2 fun y H5 s5 ok5 => ⟨ys, s5 _ _ d2, by omega, n - (i + 1), by omega, rfl, hlt, (s2.trans s5).put hD, ys ++ [y], upd_same, by simp [ly], fun j z hz => ?_⟩
    by_cases hj : j < ys.length
    · rw [List.getElem?_append_left hj] at hz
      exact oy j z hz
    · rw [List.getElem?_append_right (by omega)] at hz
      have e : j - ys.length = 0 := by
        cases q : j - ys.length with
        | zero => rfl
        | succ q' => rw [q] at hz; simp at hz
      rw [e] at hz
      have : y = z := by simpa using hz
      subst this
      have : j = i := by omega
      subst this
      exact ok5
  · have e : i = n := by omega
    subst e
    exact .inl ⟨hst H2 s2, hQ D H2 ys hD s2 d2 ly oy⟩
end L2

set_option Elab.async false
set_option linter.all false
set_option maxRecDepth 100000
set_option maxHeartbeats 4000000
namespace L2
open PySem PySem.Spec PyProof.Rows
open Builtin Builtin.Str
theorem clip_nn (n m : Nat) : max 0 (min (m : Int) (n : Int)) = ((min m n : Nat) : Int) := by
  rw [Int.max_eq_right (Int.le_min.mpr ⟨Int.natCast_nonneg _, Int.natCast_nonneg _⟩)]
  by_cases h : m ≤ n
  · rw [Nat.min_eq_left h, Int.min_eq_left (Int.ofNat_le.mpr h)]
  · rw [Nat.min_eq_right (Nat.le_of_not_le h), Int.min_eq_right (Int.ofNat_le.mpr (Nat.le_of_not_le h))]
theorem clip_neg (n : Nat) {i : Int} (h : i < 0) : max 0 (min (i + (n : Int)) (n : Int)) = (((i + (n : Int)).toNat : Nat) : Int) := by
  rw [Int.min_eq_left (by omega), Int.toNat_eq_max, Int.max_comm]
theorem strIx_eq (l u : Option Int) (n : Nat) : strSliceIndices l u 1 n = (List.range (HT.sIx n n u - HT.sIx n 0 l)).map (HT.sIx n 0 l + ·) := by
  have clip : ∀ (v : Option Int) (d : Nat), (match v with | none => (d : Int) | some i => max 0 (min (if i < 0 then i + (n : Int) else i) (n : Int))) = ((HT.sIx n d v : Nat) : Int) := by
    intro v d
    cases v with
    | none => rfl
    | some i =>
      show max 0 (min (if i < 0 then i + (n : Int) else i) (n : Int)) = (((if i < 0 then (i + (n : Int)).toNat else min i.toNat n) : Nat) : Int)
      by_cases h : i < 0
      · simp only [if_pos h]; exact clip_neg n h
      · simp only [if_neg h]
        obtain ⟨m, rfl⟩ := Int.eq_ofNat_of_zero_le (Int.not_lt.mp h)
        exact clip_nn n m
  have hl := clip l 0
  have hu := clip u n
  unfold strSliceIndices sliceRange
  simp only [show (1 : Int) > 0 by decide, if_true, Int.one_mul, Int.ediv_one]
  have e0 : ((0 : Nat) : Int) = 0 := rfl
  rw [e0] at hl
  have gen : ∀ (A B : Int) (a b : Nat), A = (a : Int) → B = (b : Int) → List.map (fun k : Nat => (A + (k : Int)).toNat) (List.range (if A < B then B - A + 1 - 1 else 0).toNat) = List.map (fun x => a + x) (List.range (b - a)) := by
    intro A B a b hA hB
    subst hA hB
    have ec : (if (a : Int) < (b : Int) then (b : Int) - (a : Int) + 1 - 1 else 0).toNat = b - a := by
      split <;> omega
    rw [ec]
    refine List.map_congr_left fun k _ => ?_
    omega
  exact gen _ _ _ _ hl hu
def cutN (xs : List Nat) (l u : Option Int) : List Nat := (xs.drop (HT.sIx xs.length 0 l)).take (HT.sIx xs.length xs.length u - HT.sIx xs.length 0 l)
theorem pick_range {α : Type} (xs : List α) (a k : Nat) (h : a + k ≤ xs.length) : ((List.range k).map (a + ·)).filterMap (xs[·]?) = (xs.drop a).take k := by
  rw [List.filterMap_map]
  induction k with
  | zero => simp
  | succ k ih =>
    rw [List.range_succ, List.filterMap_append, ih (by omega)]
    have hk : a + k < xs.length := by omega
    have e : (xs.drop a)[k]? = some (xs[a + k]) := by
      rw [List.getElem?_drop]
      exact List.getElem?_eq_getElem hk
    rw [List.take_add_one, e]
    simp [hk]
theorem slice_signs (x : Str) (l u : Option Int) : (Txt.slice x l u).cps.toList = cutN x.cps.toList l u := by
  have hlen : x.cps.toList.length = x.length := by rw [Array.length_toList]; rfl
  have hb : HT.sIx x.length x.length u ≤ x.length := by
    cases u with
    | none => exact Nat.le_refl _
    | some v =>
      show (if v < 0 then (v + (x.length : Int)).toNat else min v.toNat x.length) ≤ x.length
      split <;> omega
  unfold Txt.slice cutN
  rw [hlen, strIx_eq]
  generalize ha : HT.sIx x.length 0 l = a
  generalize hbb : HT.sIx x.length x.length u = b at hb
  by_cases hab : a ≤ b
  · split
    · rename_i h
      simp at h
      have : b - a = x.length := h
      have a0 : a = 0 := by omega
      have b0 : b = x.length := by omega
      subst a0
      rw [b0, ← hlen, List.drop_zero, Nat.sub_zero, List.take_length]
    · show (List.filterMap (fun i => x.cps[i]?) _).toArray.toList = _
      rw [List.toList_toArray]
      have e : (fun i : Nat => x.cps[i]?) = fun i : Nat => x.cps.toList[i]? := by
        funext i
        exact (Array.getElem?_toList).symm
      rw [e]
      exact pick_range _ a (b - a) (by omega)
  · have z : b - a = 0 := by omega
    rw [z]
    simp only [List.range_zero, List.map_nil, List.take_zero]
    split
    · rename_i h
      simp at h
      have : x.cps.toList = [] := List.eq_nil_of_length_eq_zero (by rw [hlen]; exact h.symm)
      exact this
    · rfl
end L2

namespace L2
open PySem PySem.Spec PyProof.Rows
section
variable {X : Cx}
inductive rSlSI (x : V) (lo : Option Int) (hi : Option Int) (H : Hp) (Q : VK) : Prop
  | mk (z : _) (x0 : x = .str z) (x1 : z.length ≤ sizeLine) (x2 : Q (.str (Txt.slice z lo hi)) H) : rSlSI  x lo hi H Q
def rSlS : V → Option Int → Option Int → Hp → VK → Prop := fun x lo hi H Q => rSlSI  x lo hi H Q
theorem sl_str : SlR X rSlS := by
  intro pins s σ H x v vl vu lo hi sl Q I rx hs pl pu h
  obtain ⟨z, rfl, hz, q⟩ := h
  obtain ⟨t, rfl⟩ := rx
  refine ⟨"str", _, F.slot_str_getitem.lookup, typeIs_str _ _ _, ?_⟩
  have fin : ∀ t' k, EP X pins σ Q (.str (Txt.slice z lo hi) t') { s with toks := k } := fun t' k => ⟨.str _, H, I.tok k, ⟨t', rfl⟩, q⟩
  cases pl with
  | none =>
    cases pu with
    | none => exact wpAny_getItem_str_slice (l := none) (u := none) (st := none) hs rfl (post_val_or_str ⟨Nat.le_trans (Txt.slice_le z _ _) hz, fin⟩)
    | int j tj => exact wpAny_getItem_str_slice (l := none) (u := some (j, tj)) (st := none) hs rfl (post_val_or_str ⟨Nat.le_trans (Txt.slice_le z _ _) hz, fin⟩)
  | int i ti =>
    cases pu with
    | none => exact wpAny_getItem_str_slice (l := some (i, ti)) (u := none) (st := none) hs rfl (post_val_or_str ⟨Nat.le_trans (Txt.slice_le z _ _) hz, fin⟩)
    | int j tj => exact wpAny_getItem_str_slice (l := some (i, ti)) (u := some (j, tj)) (st := none) hs rfl (post_val_or_str ⟨Nat.le_trans (Txt.slice_le z _ _) hz, fin⟩)
end

theorem turn_walks {P : Program} {w : World} {K : PySem.W.Frag} {tg : Expr} {it : Addr} {n : Nat} {Pv : Nat → Value → Prop} {St : Nat → Heap → Prop} {item : Nat → V → Prop} (hW : ∀ A : Around, A.handled = none → Walks P w A it [it] [it] n Pv St)
    (hobj : ∀ i h, St i h → ∃ (o : Obj) (T : String) (vs : Array Value), h.get? it = some o ∧ o.cls = .type T ∧ o.data = .fields vs ∧
      ["enumerate", "zip", "dict_itemiterator", "dict_reverseitemiterator", "odict_iterator", "itertools.zip_longest", "itertools.pairwise"].contains T = false)
    (hself : ∀ (A : Around) (i : Nat) (s : Shared) (Q : Value → Shared → Prop) (E : Value → Shared → Prop), St i s.heap → Q (.ref it) s → wpAny (model P w) A (pyIter (.ref it)) Q E s)
    (rel : ∀ i u, Pv i u → ∃ x, RelV x u ∧ item i x) : Turn P w K tg ⟨fun i _ => i < n, fun i H x H' => H' = H ∧ item i x, fun i _ => i = n⟩ [it] it St where
  mem := by simp
  obj := fun i h st b hb => by
    have e : b = it := by simpa using hb
    subst e
    obtain ⟨o, T, vs, h1, _, h3, _⟩ := hobj i h st
    exact ⟨o, h1, fun v z => by rw [h3] at z; cases z⟩
  keep := fun i h h' st k => (hW callerA rfl).frame i h h' st fun b hb o e => k b hb o e
  item := fun X hp hw _ hc i pins s σ H E I hf st go => by
    subst hp hw
    have f := hf it (by simp)
    refine (hW X.A (I.ok.hd hc)).item i s _ E go st fun v h' tk hP st' kept => ?_
    obtain ⟨x, rx, hx⟩ := rel i v hP
    obtain ⟨o, T, vs, h1, h2, h3, h4⟩ := hobj _ _ st'
    refine ⟨v, rfl, go_of (o := o) h1 h2 h3 h4 ⟨x, H, I.turned (fun b ob hb e => kept b ob (by simp [hb]) e) f.1 f.2.1 f.2.2.2.1 f.2.2.2.2.1 f.2.2.2.2.2, rx, ⟨rfl, hx⟩, st', fun b hb => ?_⟩⟩
    have e : b = it := by simpa using hb
    subst e
    exact f.1
  done := fun X hp hw _ hc i pins s σ H E I hf st stop => by
    subst hp hw
    have f := hf it (by simp)
    have stop : i = n := stop
    subst stop
    refine (hW X.A (I.ok.hd hc)).done s _ E st fun h' tk kept => ?_
    exact ⟨rfl, I.turned (fun b ob hb e => kept b ob (by simp [hb]) e) f.1 f.2.1 f.2.2.2.1 f.2.2.2.2.1 f.2.2.2.2.2⟩
  self := hself
def Its (z : Str) : It := ⟨fun i _ => i < z.cps.size, fun i H x H' => H' = H ∧ ∃ c, z.cps[i]? = some c ∧ x = .str ⟨#[c]⟩, fun i _ => i = z.cps.size⟩
def iStr (tl : TE) : TI := fun σ H R => tl σ H fun x H1 => ∃ z, x = .str z ∧ R (Its z) H1
section
variable {X : Cx} {tg : Expr}
theorem pi_str {l : Expr} {tl : TE} (hl : PE X l tl) : PI X tg l (iStr tl) := by
  intro pins s σ H R I h
  refine thn (hl pins s σ H _ I h) fun v s1 zq => zq.elim fun x H1 I1 r1 q1 => ?_
  obtain ⟨z, rfl, q⟩ := q1
  obtain ⟨t, rfl⟩ := r1
  have rel : ∀ i u, SignAt z i u → ∃ x, RelV x u ∧ ∃ c, z.cps[i]? = some c ∧ x = .str ⟨#[c]⟩ := fun i u ⟨c, tk, hc, e⟩ => ⟨.str ⟨#[c]⟩, ⟨tk, e⟩, c, hc, rfl⟩
  have fp : ∀ o : Obj, ∀ b ∈ [s1.heap.objs.size], FpOk X pins H1 b := fun o b hb => by
    have e : b = s1.heap.objs.size := by simpa using hb
    subst e
    exact I1.fpOk (Nat.le_refl _) I1.fresh
  cases ha : z.cps.all (· < 128) with
  | false =>
    refine wpAny_pyIter_wide ha ⟨s1.heap.objs.size, [s1.heap.objs.size], fun i h => h.IsStrIter s1.heap.objs.size "str_iterator" z t i, Its z, H1, rfl, I1.kept (t' := s1.toks) fun b o e => Heap.get?_push_of_some _ e,
      turn_walks (Pv := SignAt z) (fun A hA => Walks.strWide hA _ z t) (fun i h st => ?_) (fun A i s Q E st hQ => wpAny_pyIter_striter_wide st hQ) rel, ⟨_, Heap.get?_push_size _ rfl, rfl, rfl⟩, fp default, q⟩
    obtain ⟨o, h1, h2, h3⟩ := st
    exact ⟨o, _, _, h1, h2, h3, by decide⟩
  | true =>
    refine wpAny_pyIter_ascii ha ⟨s1.heap.objs.size, [s1.heap.objs.size], fun i h => h.IsStrIter s1.heap.objs.size "str_ascii_iterator" z t i, Its z, H1, rfl, I1.kept (t' := s1.toks) fun b o e => Heap.get?_push_of_some _ e,
      turn_walks (Pv := SignAt z) (fun A hA => Walks.strAscii hA _ z t) (fun i h st => ?_) (fun A i s Q E st hQ => wpAny_pyIter_striter_ascii st hQ) rel, ⟨_, Heap.get?_push_size _ rfl, rfl, rfl⟩, fp default, q⟩
    obtain ⟨o, h1, h2, h3⟩ := st
    exact ⟨o, _, _, h1, h2, h3, by decide⟩

inductive r_call_allI (K : PySem.W.Frag) (xs : List V) (H : Hp) (Q : VK) : Prop
  | mk (p : Addr) (bs : List Bool) (h0_ : xs = [.ref p]) (h1_ : SqL K H p (bs.map V.bl)) (h2_ : Q (.bl (bs.all id)) H) : r_call_allI K xs H Q
def r_call_all (K : PySem.W.Frag) : List V → Hp → VK → Prop := fun xs H Q => r_call_allI K xs H Q
theorem call_all (hc : X.calm = true) : CallR X (.builtin "all") (r_call_all X.K) := by
  intro pins s σ H xs us Q I r h
  obtain ⟨p, bs, rfl, hp, q⟩ := h
  obtain ⟨u, rfl, ru⟩ := vals1 r
  cases ru
  obtain ⟨its, rv, pl, hz⟩ := I.list hp
  obtain ⟨ob, hob, hob'⟩ := id pl.isList
  have hlt : p < s.heap.objs.size := Heap.lt_size hob
  have hin : X.A.in1.handled = none := I.ok.hd hc
  have hlen : its.toArray.size = bs.length := by rw [List.size_toArray, ← rv.length, List.length_map]
  refine call_all_walk (wpAny_pyIter_list pl.isList ⟨s.heap.objs.size, _, _, _, _, _, fun i => bs.getD i true, rfl, Walks.list hin s.heap.objs.size p (Nat.ne_of_lt hlt) its.toArray, ⟨⟨_, Heap.get?_push_size _ rfl, rfl, rfl⟩, ⟨ob, Heap.get?_push_of_some _ hob, hob'⟩⟩, ?_, fun h' tk kept => ?_⟩)
  · intro i v s' Q' E' hv hq
    have hv : its[i]? = some v := by simpa using hv
    have hi : i < bs.length := by
      have := (List.getElem?_eq_some_iff.mp hv).1
      rw [← rv.length, List.length_map] at this
      exact this
    have e : (bs.map V.bl)[i]? = some (V.bl bs[i]) := by rw [List.getElem?_map, List.getElem?_eq_getElem hi]; rfl
    obtain ⟨u, hu, ru⟩ := rv.get e
    rw [hv] at hu
    cases hu
    cases ru
    have e2 : bs.getD i true = bs[i] := by rw [List.getD_eq_getElem?_getD, List.getElem?_eq_getElem hi]; rfl
    have hq : Q' (bs.getD i true) s' := hq
    rw [e2] at hq
    exact wpAny_truthy_bool hq
  · refine ⟨.bl (bs.all id), H, I.kept (t' := tk) fun b o e => kept b o (fun z => ?_) (Heap.get?_push_of_some _ e), ?_, q⟩
    · have e' : b = s.heap.objs.size := by simpa using z
      exact Nat.ne_of_lt (Heap.lt_size e) e'
    · show Value.bool _ = Value.bool _
      congr 1
      rw [hlen, Bool.eq_iff_iff, List.all_eq_true, List.all_eq_true]
      constructor
      · intro hall b hb
        obtain ⟨i, hi, rfl⟩ := List.mem_iff_getElem.mp hb
        have := hall i (List.mem_range.mpr hi)
        rw [List.getD_eq_getElem?_getD, List.getElem?_eq_getElem hi] at this
        exact this
      · intro hall i hi
        have hi := List.mem_range.mp hi
        rw [List.getD_eq_getElem?_getD, List.getElem?_eq_getElem hi]
        exact hall _ (List.getElem_mem hi)
theorem strsAre_of {ys : List Str} : ∀ {us : List Value}, Vals (ys.map V.str) us → StrsAre us ys := by
  induction ys with
  | nil => intro us r; rw [List.map_nil] at r; cases r; exact .nil
  | cons n ns ih =>
    intro us r
    rw [List.map_cons] at r
    cases r with
    | cons r1 r2 =>
      obtain ⟨t, e⟩ := r1
      subst e
      exact .cons n t (ih r2)
inductive rJoinI (K : PySem.W.Frag) (x : V) (vs : List V) (H : Hp) (Q : VK) : Prop
  | mk (z : Str) (p : Addr) (ys : List Str) (x0 : x = .str z) (x1 : vs = [.ref p]) (x2 : SqL K H p (ys.map V.str)) (x3 : (ys.map (·.length)).sum + ys.length * z.length ≤ 16777216) (x4 : Q (.str (Txt.join z ys)) H) : rJoinI K x vs H Q
def rJoin (K : PySem.W.Frag) : V → List V → Hp → VK → Prop := fun x vs H Q => rJoinI K x vs H Q
theorem mt_join : MtR X "str.join" (rJoin X.K) := by
  intro pins s σ H x vs v us Q I rx rv h
  obtain ⟨z, p, ys, rfl, rfl, hp, hz, q⟩ := h
  obtain ⟨t, rfl⟩ := rx
  obtain ⟨u, rfl, ru⟩ := rv.one
  cases ru
  obtain ⟨its, r, pl, _⟩ := I.list hp
  exact join_list pl.isList (by rw [List.toList_toArray]; exact strsAre_of r) hz fun t' k => ⟨.str _, H, I.tok k, ⟨t', rfl⟩, q⟩
inductive r_op_mul_strI (x : V) (y : V) (H : Hp) (Q : VK) : Prop
  | mk (z : _) (n : _) (h0_ : x = .str z) (h1_ : y = .int n) (h2_ : MulOk z n) (h3_ : Q (.str (Txt.mul z n)) H) : r_op_mul_strI x y H Q
inductive r_op_isBI (x : V) (y : V) (H : Hp) (Q : VK) : Prop
  | mk (a : _) (b : _) (h0_ : x = .bl a) (h1_ : y = .bl b) (h2_ : Q (.bl (a == b)) H) : r_op_isBI x y H Q
inductive r_op_isNotBI (x : V) (y : V) (H : Hp) (Q : VK) : Prop
  | mk (a : _) (b : _) (h0_ : x = .bl a) (h1_ : y = .bl b) (h2_ : Q (.bl (!(a == b))) H) : r_op_isNotBI x y H Q
def r_op_isNotB : V → V → Hp → VK → Prop := fun x y H Q => r_op_isNotBI x y H Q
theorem op_isNotB : OpR X (compareOp .IsNot) r_op_isNotB := by
  intro pins s σ H x y v u Q I rx ry h
  obtain ⟨a, b, rfl, rfl, q⟩ := h
  cases rx
  cases ry
  exact isnot_bool (fin_bl I q rfl)

inductive r_call_isi1I (K : PySem.W.Frag) (xs : List V) (H : Hp) (Q : VK) : Prop
  | mk (x : _) (T : _) (t : _) (b : _) (h0_ : xs = [x, .ty T]) (h1_ : TyOf K H x t) (h2_ : PySem.W.kitOne K t (.type T) = some b) (h3_ : Q (.bl b) H) : r_call_isi1I K xs H Q
inductive rInsertI (x : V) (vs : List V) (H : Hp) (Q : VK) : Prop
  | mk (l : _) (xs : _) (i : _) (y : _) (x0 : x = .ref l) (x1 : vs = [.int ((i : Nat) : Int), y]) (x2 : H l = some (.lst xs)) (x3 : i ≤ xs.length) (x4 : xs.length < sizeLine) (x5 : Q .non (upd H l (.lst (xs.take i ++ y :: xs.drop i)))) : rInsertI  x vs H Q
def rInsert : V → List V → Hp → VK → Prop := fun x vs H Q => rInsertI  x vs H Q
theorem mt_insert : MtM X "list.insert" rInsert := by
  intro pins s σ H x vs v us Q I rx rv h
  obtain ⟨l, xs, i, y, rfl, rfl, hH, hi, hz, q⟩ := h
  cases rx
  obtain ⟨u1, u2, rfl, ⟨t, e1⟩, ry⟩ := rv.two
  subst e1
  obtain ⟨z, its, n, r, hl, e⟩ := I.lstM hH
  have hzi : its.toArray.size ≤ sizeLine := by rw [List.size_toArray, ← hl]; exact Nat.le_of_lt hz
  have h63 : i < 2 ^ 63 := Nat.lt_of_le_of_lt (Nat.le_trans hi (Nat.le_of_lt hz)) line63
  have hil : i ≤ its.length := by rw [← hl]; exact hi
  obtain ⟨x, hx⟩ : ∃ x : Int, x = (i : Int) := ⟨_, rfl⟩
  rw [← hx]
  have hfit : ¬ (!Builtin.List.listFitsIndex x) = true := by
    have : Builtin.List.listFitsIndex x = true := by
      unfold Builtin.List.listFitsIndex
      simp only [Bool.and_eq_true, decide_eq_true_eq]
      constructor <;> omega
    simp [this]
  have e3 : ∀ m : Nat, its.length = m → (if x < 0 then (x + (m : Int)).toNat else min x.toNat m) = i := fun m hm => by
    rw [if_neg (by omega)]
    omega
  refine call_meets PySem.F.slot_list_insert ⟨_, e, rfl⟩ PySem.F.entry_list_insert (PySem.F.args_list_insert_3 _ _ _) (PySem.AutoSeq1.list_insert_list_int_val_1 l its.toArray n x t u2 hfit hzi) ⟨e, ?_⟩
  refine ⟨.non, _, I.lset (its' := its.take i ++ u2 :: its.drop i) hH e ?_ ((r.take i).append (.cons ry (r.drop i))) ?_, rfl, q⟩
  · show (its.toArray.extract 0 (if x < 0 then (x + (its.toArray.size : Int)).toNat else min x.toNat its.toArray.size)).push u2 ++ its.toArray.extract (if x < 0 then (x + (its.toArray.size : Int)).toNat else min x.toNat its.toArray.size) = _
    rw [e3 its.toArray.size (List.size_toArray ..).symm]
    apply Array.toList_inj.mp
    simp [List.take_of_length_le]
  · simp only [List.length_append, List.length_take, List.length_cons, List.length_drop]
    omega
end
end L2

set_option Elab.async false
set_option linter.all false
set_option maxRecDepth 100000
set_option maxHeartbeats 4000000
namespace L2
open PySem PySem.Spec PyProof.Rows
section
variable {X : Cx}
inductive rCatEI (x : V) (y : V) (H : Hp) (Q : VK) : Prop
  | mk (a : _) (b : _) (xs : _) (ys : _) (x0 : x = .ref a) (x1 : y = .ref b) (x2 : H a = some (.tup xs)) (x3 : H b = some (.tup ys)) (x4 : xs.length + ys.length ≤ sizeLine) (x5 : ∀ p H', Same H H' → H' p = some (.tup (xs ++ ys)) → Q (.ref p) H') : rCatEI  x y H Q
end
end L2
namespace HT
open PySem PyProof.Rows
section
variable {prog : Program} {w : World} {A : Around} {E : Value → Shared → Prop} {s : Shared}
end
end HT
namespace L2
open PySem PySem.Spec PyProof.Rows
section
variable {X : Cx}
inductive rSlEI (x : V) (lo : Option Int) (hi : Option Int) (H : Hp) (Q : VK) : Prop
  | mk (a : _) (xs : _) (x0 : x = .ref a) (x1 : H a = some (.tup xs)) (x2 : ∀ p H', Same H H' → H' p = some (.tup (cutV xs lo hi)) → Q (.ref p) H') : rSlEI  x lo hi H Q
end
end L2

set_option Elab.async false
set_option linter.all false
set_option maxRecDepth 100000
set_option maxHeartbeats 4000000
namespace L2
open PySem PySem.Spec PyProof.Rows
inductive TyN (H : Hp) : V → String → Prop where
  | non : TyN H .non "NoneType"
  | bl (b : Bool) : TyN H (.bl b) "bool"
  | int (i : Int) : TyN H (.int i) "int"
  | str (x : Str) : TyN H (.str x) "str"
  | lst {a : Addr} {xs : List V} (e : Rd H a (.lst xs)) : TyN H (.ref a) "list"
  | tup {a : Addr} {xs : List V} (e : H a = some (.tup xs)) : TyN H (.ref a) "tuple"
  | dK {a : Addr} {kvs : List (Key × V)} (e : Rd H a (.dK kvs)) : TyN H (.ref a) "dict"
theorem Rd.up {H H' : Hp} {a : Addr} {u : HO} (h : Rd H a u) (s : ∀ o, H a = some o → H' a = some o) : Rd H' a u := by
  rcases h with h | ⟨o, h⟩
  · exact .inl (s _ h)
  · exact .inr ⟨o, s _ h⟩
theorem TyN.same {H H' : Hp} {v : V} {T : String} (h : TyN H v T) (s : Same H H') : TyN H' v T := by
  cases h with
  | non => exact .non
  | bl b => exact .bl b
  | int i => exact .int i
  | str x => exact .str x
  | lst e => exact .lst (e.up fun o => s _ o)
  | tup e => exact .tup (s _ _ e)
  | dK e => exact .dK (e.up fun o => s _ o)
def isiB (T c : String) : Bool := T == c || (T == "bool" && c == "int")
def isiC (c : String) : Bool := ["int", "bool", "str", "list", "tuple", "dict"].contains c
theorem kit_isi {K : PySem.W.Frag} {H : Hp} {v : V} {T c : String} (h : TyN H v T) (hc : isiC c = true) : PySem.W.kitOne K (.type T) (.type c) = some (isiB T c) := by
  have hc : c = "int" ∨ c = "bool" ∨ c = "str" ∨ c = "list" ∨ c = "tuple" ∨ c = "dict" := by
    unfold isiC at hc
    simpa using hc
  cases h <;> rcases hc with rfl | rfl | rfl | rfl | rfl | rfl <;> kernel_rfl
section
variable {X : Cx}
inductive rIsiI (xs : List V) (H : Hp) (Q : VK) : Prop
  | mk (x : _) (c : _) (T : _) (x0 : xs = [x, .ty c]) (x1 : isiC c = true) (x2 : TyN H x T) (x3 : Q (.bl (isiB T c)) H) : rIsiI  xs H Q
def rIsi : List V → Hp → VK → Prop := fun xs H Q => rIsiI  xs H Q
theorem isinst_N {pins : List (Addr × Obj)} {σ : St} {H : Hp} {s : Shared} {A : Around} {E : Value → Shared → Prop} {Q : Value → Shared → Prop} {x : V} {u : Value} {T c : String} {b : Bool} (I : Inv X pins σ H s) (rx : RelV x u) (ty : TyN H x T) (e : PySem.W.kitOne X.K (.type T) (.type c) = some b) (h : ∀ tk, Q (.bool b) { s with toks := tk }) :
    wpAny (model X.prog X.w) A (call (.builtin "isinstance") [u, .type c]) Q E s := by
  cases ty with
  | non => exact isinst_ok I rx .non e h
  | bl y => exact isinst_ok I rx (.bl y) e h
  | int i => exact isinst_ok I rx (.int i) e h
  | str y => exact isinst_ok I rx (.str y) e h
  | tup ea => exact isinst_ok I rx (.tup ea) e h
  | @lst a xs ea =>
    cases (show u = Value.ref a from rx)
    obtain ⟨_, _, n, _, h1⟩ := (show ObjOk X.prog X.w H s.heap a (.lst xs) from ea.ok I.hok)
    exact PySem.W.kia_one PySem.W.kitx_list I.kIn ⟨_, h1, rfl⟩ e (fun z => nomatch z) h
  | @dK a kvs ea =>
    cases (show u = Value.ref a from rx)
    obtain ⟨_, _, vs, _, p⟩ := (show ObjOk X.prog X.w H s.heap a (.dK kvs) from ea.ok I.hok)
    obtain ⟨o, es, ep, h1, h2, _⟩ := p
    exact PySem.W.kia_one PySem.W.kitx_dict I.kIn ⟨o, h1, h2.1⟩ e (fun z => nomatch z) h
theorem call_isiN : CallR X (.builtin "isinstance") rIsi := by
  intro pins s σ H xs us Q I r h
  obtain ⟨x, c, T, rfl, hc, ty, q⟩ := h
  obtain ⟨u, w', rfl, ru, rw'⟩ := vals2 r
  cases rw'
  exact isinst_N I ru ty (kit_isi ty hc) fun tk => ⟨.bl _, H, I.tok tk, rfl, q⟩
end
end L2

set_option Elab.async false
set_option linter.all false
namespace L2
open PySem PySem.Spec PyProof.Rows
theorem op_mulB {X : Cx} : OpR X (binaryOp .Mult) (rI (fun i j => i.natAbs < 2 ^ 400 ∧ j.natAbs < 2 ^ 400) fun i j => .int (i * j)) :=
  opI fun _ _ _ _ _ _ _ hc q => mul_int q (.of_bits (Nat.le_trans (PyProof.Rows.intBits_le hc.1) (by decide)) (Nat.le_trans (PyProof.Rows.intBits_le hc.2) (by decide)))
end L2

set_option Elab.async false
set_option linter.all false
set_option maxRecDepth 100000
set_option maxHeartbeats 4000000
namespace L2
open PySem PySem.Spec PyProof.Rows
open Builtin Builtin.Str
abbrev sgn (x : Str) : List Nat := x.cps.toList
def LET : List Nat := sgn "abcdefghijklmnopqrstuvwxyz"
def isL (c : Nat) : Bool := decide (c ∈ LET)
theorem sgn_length (x : Str) : (sgn x).length = x.length := by
  show x.cps.toList.length = x.cps.size
  exact Array.length_toList
theorem sgn_append (x y : Str) : sgn (x ++ y) = sgn x ++ sgn y := by
  show (x.cps ++ y.cps).toList = _
  exact Array.toList_append
theorem sgn_slice (x : Str) (l u : Option Int) : sgn (Txt.slice x l u) = cutN (sgn x) l u := slice_signs x l u
def nameS (l : List Nat) : Bool := decide (1 ≤ l.length) && decide (l.length ≤ 8) && l.all isL
def nameB (x : Str) : Bool := nameS (sgn x)
theorem sgn_join (ys : List Str) : sgn (Txt.join "" ys) = (ys.map sgn).flatten := by
  have h : ∀ ys : List Str, sgn (Str.join "" ys) = (ys.map sgn).flatten := by
    intro ys
    induction ys with
    | nil => rfl
    | cons x r ih =>
      cases r with
      | nil =>
        show sgn x = _
        simp
      | cons y r =>
        show sgn (x ++ "" ++ Str.join "" (y :: r)) = _
        rw [sgn_append, sgn_append, ih]
        have : sgn ("" : Str) = [] := by decide
        rw [this]
        simp
  show sgn (Builtin.Str.glued "" ys) = _
  rw [StrLaws.glued_eq_join]
  exact h ys
theorem sIx_n (n d k : Nat) : HT.sIx n d (some (k : Int)) = min k n := by
  show (if (k : Int) < 0 then ((k : Int) + (n : Int)).toNat else min (k : Int).toNat n) = min k n
  rw [if_neg (by omega), Int.toNat_natCast]
theorem cut_to (l : List Nat) (k : Nat) : cutN l none (some (k : Int)) = l.take k := by
  unfold cutN
  have e := sIx_n l.length l.length k
  rw [e]
  show (l.drop 0).take (min k l.length - 0) = _
  rw [List.drop_zero, Nat.sub_zero, List.take_eq_take_min]
  simp
theorem cut_from (l : List Nat) (k : Nat) : cutN l (some (k : Int)) none = l.drop k := by
  unfold cutN
  have e := sIx_n l.length 0 k
  rw [e]
  show (l.drop (min k l.length)).take (l.length - min k l.length) = _
  have : (l.drop (min k l.length)).length = l.length - min k l.length := List.length_drop
  rw [← this, List.take_length]
  by_cases h : k ≤ l.length
  · rw [Nat.min_eq_left h]
  · rw [Nat.min_eq_right (by omega), List.drop_eq_nil_of_le (by omega), List.drop_eq_nil_of_le (by omega)]
theorem cut_mid (l : List Nat) (a b : Nat) (hab : a ≤ b) (hb : b ≤ l.length) : cutN l (some (a : Int)) (some (b : Int)) = (l.take b).drop a := by
  unfold cutN
  have e1 : HT.sIx l.length 0 (some (a : Int)) = a := (sIx_n _ _ a).trans (Nat.min_eq_left (by omega))
  have e2 : HT.sIx l.length l.length (some (b : Int)) = b := (sIx_n _ _ b).trans (Nat.min_eq_left hb)
  rw [e1, e2, List.drop_take]
theorem all_take {l : List Nat} {p : Nat → Bool} (h : l.all p = true) (k : Nat) : (l.take k).all p = true := by
  rw [List.all_eq_true] at h ⊢
  exact fun x hx => h x (List.mem_of_mem_take hx)
theorem all_drop {l : List Nat} {p : Nat → Bool} (h : l.all p = true) (k : Nat) : (l.drop k).all p = true := by
  rw [List.all_eq_true] at h ⊢
  exact fun x hx => h x (List.mem_of_mem_drop hx)
theorem isL_of_mem {c : Nat} (h : c ∈ LET) : isL c = true := decide_eq_true h
theorem nameS_len {l : List Nat} (h : nameS l = true) : 1 ≤ l.length ∧ l.length ≤ 8 ∧ l.all isL = true := by
  unfold nameS at h
  simp only [Bool.and_eq_true, decide_eq_true_eq] at h
  exact ⟨h.1.1, h.1.2, h.2⟩
theorem nameS_mk {l : List Nat} (h1 : 1 ≤ l.length) (h2 : l.length ≤ 8) (h3 : l.all isL = true) : nameS l = true := by
  unfold nameS
  simp only [Bool.and_eq_true, decide_eq_true_eq]
  exact ⟨⟨h1, h2⟩, h3⟩
end L2

set_option Elab.async false
set_option linter.all false
set_option maxRecDepth 100000
set_option maxHeartbeats 4000000
namespace L2
open PySem PySem.Spec PyProof.Rows
inductive Dc where
  | leaf (v : V)
  | row (a : Addr) (xs : List Dc)
  | tab (a : Addr) (ks : List Str) (xs : List Dc)
namespace Dc
def val : Dc → V
  | leaf v => v
  | row a _ => .ref a
  | tab a _ _ => .ref a
mutual
def addrs : Dc → List Addr
  | leaf _ => []
  | row a xs => a :: addrsL xs
  | tab a _ xs => a :: addrsL xs
def addrsL : List Dc → List Addr
  | [] => []
  | x :: r => addrs x ++ addrsL r
end
mutual
def size : Dc → Nat
  | leaf _ => 1
  | row _ xs => 1 + sizeL xs
  | tab _ _ xs => 1 + sizeL xs
def sizeL : List Dc → Nat
  | [] => 0
  | x :: r => size x + sizeL r
end
def Lf (v : V) : Prop := (∃ i, v = .int i) ∨ ∃ x : Str, v = .str x ∧ x.length ≤ 100
def kvs (ks : List Str) (xs : List Dc) : List (Key × V) := (ks.zip (xs.map val)).map fun p => (Sum.inr p.1, p.2)
mutual
def At (H : Hp) : Dc → Prop
  | leaf v => Lf v
  | row a xs => Rd H a (.lst (xs.map val)) ∧ AtL H xs
  | tab a ks xs => Rd H a (.dK (kvs ks xs)) ∧ ks.length = xs.length ∧ ks.Nodup ∧ AtL H xs
def AtL (H : Hp) : List Dc → Prop
  | [] => True
  | x :: r => At H x ∧ AtL H r
end
mutual
def put (b : Addr) (i : Nat) (k : Str) (p : Dc) : Dc → Dc
  | leaf v => leaf v
  | row a xs => if a = b then row a (xs.take i ++ p :: xs.drop i) else row a (putL b i k p xs)
  | tab a ks xs => if a = b then tab a (ks ++ [k]) (xs ++ [p]) else tab a ks (putL b i k p xs)
def putL (b : Addr) (i : Nat) (k : Str) (p : Dc) : List Dc → List Dc
  | [] => []
  | x :: r => put b i k p x :: putL b i k p r
end
theorem size_pos (d : Dc) : 1 ≤ d.size := by
  cases d <;> simp only [size] <;> omega
theorem putL_length (b : Addr) (i : Nat) (k : Str) (p : Dc) : ∀ xs, (putL b i k p xs).length = xs.length
  | [] => rfl
  | x :: r => by simp only [putL, List.length_cons, putL_length b i k p r]
theorem put_val (b : Addr) (i : Nat) (k : Str) (p d : Dc) : (put b i k p d).val = d.val := by
  cases d with
  | leaf v => rfl
  | row a xs => simp only [put]; split <;> rfl
  | tab a ks xs => simp only [put]; split <;> rfl
theorem putL_val (b : Addr) (i : Nat) (k : Str) (p : Dc) : ∀ xs, (putL b i k p xs).map val = xs.map val
  | [] => rfl
  | x :: r => by simp only [putL, List.map_cons, put_val, putL_val b i k p r]
theorem addrsL_append : ∀ xs ys : List Dc, addrsL (xs ++ ys) = addrsL xs ++ addrsL ys
  | [], _ => rfl
  | x :: r, ys => by simp only [List.cons_append, addrsL, addrsL_append r ys, List.append_assoc]
theorem sizeL_append : ∀ xs ys : List Dc, sizeL (xs ++ ys) = sizeL xs + sizeL ys
  | [], ys => by simp [sizeL]
  | x :: r, ys => by simp only [List.cons_append, sizeL, sizeL_append r ys]; omega
theorem AtL_append {H : Hp} : ∀ xs ys : List Dc, AtL H (xs ++ ys) ↔ AtL H xs ∧ AtL H ys
  | [], ys => by simp [AtL]
  | x :: r, ys => by simp only [List.cons_append, AtL, AtL_append r ys, and_assoc]
theorem AtL_mem {H : Hp} : ∀ {xs : List Dc}, AtL H xs → ∀ x ∈ xs, At H x
  | [], _, x, hx => nomatch hx
  | y :: r, h, x, hx => by
    simp only [AtL] at h
    rcases List.mem_cons.mp hx with rfl | hx
    · exact h.1
    · exact AtL_mem h.2 x hx
theorem sizeL_mem : ∀ {xs : List Dc} {x : Dc}, x ∈ xs → x.size ≤ sizeL xs
  | [], _, h => nomatch h
  | y :: r, x, h => by
    simp only [sizeL]
    rcases List.mem_cons.mp h with rfl | h
    · omega
    · have := sizeL_mem h
      omega
theorem addrsL_mem : ∀ {xs : List Dc} {x : Dc} {a : Addr}, x ∈ xs → a ∈ x.addrs → a ∈ addrsL xs
  | [], _, _, h, _ => nomatch h
  | y :: r, x, a, h, ha => by
    simp only [addrsL]
    rcases List.mem_cons.mp h with rfl | h
    · exact List.mem_append_left _ ha
    · exact List.mem_append_right _ (addrsL_mem h ha)
mutual
theorem at_frame {H H' : Hp} : ∀ d : Dc, (∀ a ∈ d.addrs, ∀ o, H a = some o → H' a = some o) → d.At H → d.At H'
  | leaf v, _, h => h
  | row a xs, f, h => by
    simp only [At] at h ⊢
    exact ⟨h.1.up (f a (by simp [addrs])), atL_frame xs (fun c hc => f c (by simp only [addrs]; exact List.mem_cons_of_mem _ hc)) h.2⟩
  | tab a ks xs, f, h => by
    simp only [At] at h ⊢
    exact ⟨h.1.up (f a (by simp [addrs])), h.2.1, h.2.2.1, atL_frame xs (fun c hc => f c (by simp only [addrs]; exact List.mem_cons_of_mem _ hc)) h.2.2.2⟩
theorem atL_frame {H H' : Hp} : ∀ xs : List Dc, (∀ a ∈ addrsL xs, ∀ o, H a = some o → H' a = some o) → AtL H xs → AtL H' xs
  | [], _, h => h
  | x :: r, f, h => by
    simp only [AtL] at h ⊢
    exact ⟨at_frame x (fun c hc => f c (by simp only [addrsL]; exact List.mem_append_left _ hc)) h.1, atL_frame r (fun c hc => f c (by simp only [addrsL]; exact List.mem_append_right _ hc)) h.2⟩
end
mutual
theorem at_read {H H' : Hp} : ∀ d : Dc, (∀ a ∈ d.addrs, ∀ u, Rd H a u → Rd H' a u) → d.At H → d.At H'
  | leaf v, _, h => h
  | row a xs, f, h => by
    simp only [At] at h ⊢
    exact ⟨f a (by simp [addrs]) _ h.1, atL_read xs (fun c hc => f c (by simp only [addrs]; exact List.mem_cons_of_mem _ hc)) h.2⟩
  | tab a ks xs, f, h => by
    simp only [At] at h ⊢
    exact ⟨f a (by simp [addrs]) _ h.1, h.2.1, h.2.2.1, atL_read xs (fun c hc => f c (by simp only [addrs]; exact List.mem_cons_of_mem _ hc)) h.2.2.2⟩
theorem atL_read {H H' : Hp} : ∀ xs : List Dc, (∀ a ∈ addrsL xs, ∀ u, Rd H a u → Rd H' a u) → AtL H xs → AtL H' xs
  | [], _, h => h
  | x :: r, f, h => by
    simp only [AtL] at h ⊢
    exact ⟨at_read x (fun c hc => f c (by simp only [addrsL]; exact List.mem_append_left _ hc)) h.1, atL_read r (fun c hc => f c (by simp only [addrsL]; exact List.mem_append_right _ hc)) h.2⟩
end
theorem at_same {H H' : Hp} {d : Dc} (s : Same H H') (h : d.At H) : d.At H' := at_frame d (fun a _ o e => s a o e) h
mutual
theorem put_not {b : Addr} {i : Nat} {k : Str} {p : Dc} : ∀ d : Dc, b ∉ d.addrs → put b i k p d = d
  | leaf v, _ => rfl
  | row a xs, h => by
    simp only [addrs, List.mem_cons, not_or] at h
    simp only [put]
    rw [if_neg (fun e => h.1 e.symm), putL_not xs h.2]
  | tab a ks xs, h => by
    simp only [addrs, List.mem_cons, not_or] at h
    simp only [put]
    rw [if_neg (fun e => h.1 e.symm), putL_not xs h.2]
theorem putL_not {b : Addr} {i : Nat} {k : Str} {p : Dc} : ∀ xs : List Dc, b ∉ addrsL xs → putL b i k p xs = xs
  | [], _ => rfl
  | x :: r, h => by
    simp only [addrsL, List.mem_append, not_or] at h
    simp only [putL]
    rw [put_not x h.1, putL_not r h.2]
end
theorem take_drop_size (xs : List Dc) (i : Nat) : sizeL (xs.take i) + sizeL (xs.drop i) = sizeL xs := by
  rw [← sizeL_append, List.take_append_drop]
mutual
theorem put_size {b : Addr} {i : Nat} {k : Str} {p : Dc} : ∀ d : Dc, b ∈ d.addrs → d.addrs.Nodup → (put b i k p d).size = d.size + p.size
  | leaf v, h, _ => by simp [addrs] at h
  | row a xs, h, n => by
    simp only [addrs, List.mem_cons] at h
    simp only [addrs, List.nodup_cons] at n
    simp only [put]
    by_cases e : a = b
    · rw [if_pos e]
      simp only [size, sizeL_append, sizeL]
      have := take_drop_size xs i
      omega
    · rw [if_neg e]
      simp only [size]
      rw [putL_size xs (h.resolve_left fun z => e z.symm) n.2]
      omega
  | tab a ks xs, h, n => by
    simp only [addrs, List.mem_cons] at h
    simp only [addrs, List.nodup_cons] at n
    simp only [put]
    by_cases e : a = b
    · rw [if_pos e]
      simp only [size, sizeL_append, sizeL]
      omega
    · rw [if_neg e]
      simp only [size]
      rw [putL_size xs (h.resolve_left fun z => e z.symm) n.2]
      omega
theorem putL_size {b : Addr} {i : Nat} {k : Str} {p : Dc} : ∀ xs : List Dc, b ∈ addrsL xs → (addrsL xs).Nodup → sizeL (putL b i k p xs) = sizeL xs + p.size
  | [], h, _ => by simp [addrsL] at h
  | x :: r, h, n => by
    simp only [addrsL] at h n
    obtain ⟨n1, n2, n3⟩ := List.nodup_append.mp n
    simp only [putL, sizeL]
    by_cases hx : b ∈ x.addrs
    · have hr : b ∉ addrsL r := fun z => n3 b hx b z rfl
      rw [put_size x hx n1, putL_not r hr]
      omega
    · rw [put_not x hx, putL_size r ((List.mem_append.mp h).resolve_left hx) n2]
      omega
end
mutual
theorem put_addrs {b : Addr} {i : Nat} {k : Str} {p : Dc} : ∀ (d : Dc) (c : Addr), (c ∈ (put b i k p d).addrs → c ∈ d.addrs ∨ (b ∈ d.addrs ∧ c ∈ p.addrs)) ∧ (c ∈ d.addrs → c ∈ (put b i k p d).addrs) ∧ (b ∈ d.addrs → c ∈ p.addrs → c ∈ (put b i k p d).addrs)
  | leaf v, c => by simp [put, addrs]
  | row a xs, c => by
    have ih := putL_addrs (b := b) (i := i) (k := k) (p := p) xs c
    simp only [put]
    by_cases e : a = b
    · rw [if_pos e]
      have et : addrsL xs = addrsL (xs.take i) ++ addrsL (xs.drop i) := by rw [← addrsL_append, List.take_append_drop]
      simp only [addrs, addrsL_append, addrsL, List.mem_cons, List.mem_append]
      rw [et]
      simp only [List.mem_append]
      subst e
      refine ⟨?_, ?_, ?_⟩
      · rintro (h | h | h | h)
        · exact .inl (.inl h)
        · exact .inl (.inr (.inl h))
        · exact .inr ⟨.inl rfl, h⟩
        · exact .inl (.inr (.inr h))
      · rintro (h | h | h)
        · exact .inl h
        · exact .inr (.inl h)
        · exact .inr (.inr (.inr h))
      · intro _ h
        exact .inr (.inr (.inl h))
    · rw [if_neg e]
      simp only [addrs, List.mem_cons]
      refine ⟨?_, ?_, ?_⟩
      · rintro (h | h)
        · exact .inl (.inl h)
        · exact (ih.1 h).imp .inr fun z => ⟨.inr z.1, z.2⟩
      · rintro (h | h)
        · exact .inl h
        · exact .inr (ih.2.1 h)
      · rintro (h | h) hp
        · exact absurd h.symm e
        · exact .inr (ih.2.2 h hp)
  | tab a ks xs, c => by
    have ih := putL_addrs (b := b) (i := i) (k := k) (p := p) xs c
    simp only [put]
    by_cases e : a = b
    · rw [if_pos e]
      simp only [addrs, addrsL_append, addrsL, List.mem_cons, List.mem_append, List.append_nil]
      subst e
      refine ⟨?_, ?_, ?_⟩
      · rintro (h | h | h)
        · exact .inl (.inl h)
        · exact .inl (.inr h)
        · exact .inr ⟨.inl rfl, h⟩
      · rintro (h | h)
        · exact .inl h
        · exact .inr (.inl h)
      · intro _ h
        exact .inr (.inr h)
    · rw [if_neg e]
      simp only [addrs, List.mem_cons]
      refine ⟨?_, ?_, ?_⟩
      · rintro (h | h)
        · exact .inl (.inl h)
        · exact (ih.1 h).imp .inr fun z => ⟨.inr z.1, z.2⟩
      · rintro (h | h)
        · exact .inl h
        · exact .inr (ih.2.1 h)
      · rintro (h | h) hp
        · exact absurd h.symm e
        · exact .inr (ih.2.2 h hp)
theorem putL_addrs {b : Addr} {i : Nat} {k : Str} {p : Dc} : ∀ (xs : List Dc) (c : Addr), (c ∈ addrsL (putL b i k p xs) → c ∈ addrsL xs ∨ (b ∈ addrsL xs ∧ c ∈ p.addrs)) ∧ (c ∈ addrsL xs → c ∈ addrsL (putL b i k p xs)) ∧ (b ∈ addrsL xs → c ∈ p.addrs → c ∈ addrsL (putL b i k p xs))
  | [], c => by simp [putL, addrsL]
  | x :: r, c => by
    have h1 := put_addrs (b := b) (i := i) (k := k) (p := p) x c
    have h2 := putL_addrs (b := b) (i := i) (k := k) (p := p) r c
    simp only [putL, addrsL, List.mem_append]
    refine ⟨?_, ?_, ?_⟩
    · rintro (h | h)
      · exact (h1.1 h).imp .inl fun z => ⟨.inl z.1, z.2⟩
      · exact (h2.1 h).imp .inr fun z => ⟨.inr z.1, z.2⟩
    · rintro (h | h)
      · exact .inl (h1.2.1 h)
      · exact .inr (h2.2.1 h)
    · rintro (h | h) hp
      · exact .inl (h1.2.2 h hp)
      · exact .inr (h2.2.2 h hp)
end
mutual
theorem put_nodup {b : Addr} {i : Nat} {k : Str} {p : Dc} (np : p.addrs.Nodup) : ∀ d : Dc, d.addrs.Nodup → (∀ c ∈ d.addrs, c ∉ p.addrs) → (put b i k p d).addrs.Nodup
  | leaf v, n, _ => n
  | row a xs, n, dj => by
    simp only [addrs, List.nodup_cons] at n
    simp only [put]
    by_cases e : a = b
    · rw [if_pos e]
      simp only [addrs, addrsL_append, addrsL]
      have et : addrsL xs = addrsL (xs.take i) ++ addrsL (xs.drop i) := by rw [← addrsL_append, List.take_append_drop]
      rw [et] at n
      have dj' : ∀ c, c ∈ addrsL (xs.take i) ++ addrsL (xs.drop i) → c ∉ p.addrs := fun c hc => dj c (by simp only [addrs]; rw [et]; exact List.mem_cons_of_mem _ hc)
      obtain ⟨m1, m2, m3⟩ := List.nodup_append.mp n.2
      refine List.nodup_cons.mpr ⟨fun h => ?_, List.nodup_append.mpr ⟨m1, List.nodup_append.mpr ⟨np, m2, fun c hc e' he hce => ?_⟩, fun c hc e' he hce => ?_⟩⟩
      · simp only [List.mem_append] at h
        rcases h with h | h | h
        · exact n.1 (List.mem_append_left _ h)
        · exact dj a (by simp [addrs]) h
        · exact n.1 (List.mem_append_right _ h)
      · subst hce
        exact dj' c (List.mem_append_right _ he) hc
      · subst hce
        rcases List.mem_append.mp he with he | he
        · exact dj' c (List.mem_append_left _ hc) he
        · exact m3 c hc c he rfl
    · rw [if_neg e]
      simp only [addrs]
      refine List.nodup_cons.mpr ⟨fun h => ?_, putL_nodup np xs n.2 fun c hc => dj c (by simp only [addrs]; exact List.mem_cons_of_mem _ hc)⟩
      rcases (putL_addrs xs a).1 h with h | h
      · exact n.1 h
      · exact dj a (by simp [addrs]) h.2
  | tab a ks xs, n, dj => by
    simp only [addrs, List.nodup_cons] at n
    simp only [put]
    by_cases e : a = b
    · rw [if_pos e]
      simp only [addrs, addrsL_append, addrsL, List.append_nil]
      refine List.nodup_cons.mpr ⟨fun h => ?_, List.nodup_append.mpr ⟨n.2, np, fun c hc e' he hce => ?_⟩⟩
      · rcases List.mem_append.mp h with h | h
        · exact n.1 h
        · exact dj a (by simp [addrs]) h
      · subst hce
        exact dj c (by simp only [addrs]; exact List.mem_cons_of_mem _ hc) he
    · rw [if_neg e]
      simp only [addrs]
      refine List.nodup_cons.mpr ⟨fun h => ?_, putL_nodup np xs n.2 fun c hc => dj c (by simp only [addrs]; exact List.mem_cons_of_mem _ hc)⟩
      rcases (putL_addrs xs a).1 h with h | h
      · exact n.1 h
      · exact dj a (by simp [addrs]) h.2
theorem putL_nodup {b : Addr} {i : Nat} {k : Str} {p : Dc} (np : p.addrs.Nodup) : ∀ xs : List Dc, (addrsL xs).Nodup → (∀ c ∈ addrsL xs, c ∉ p.addrs) → (addrsL (putL b i k p xs)).Nodup
  | [], n, _ => n
  | x :: r, n, dj => by
    simp only [addrsL] at n dj
    obtain ⟨n1, n2, n3⟩ := List.nodup_append.mp n
    simp only [putL, addrsL]
    have i1 := put_nodup (b := b) (i := i) (k := k) np x n1 fun c hc => dj c (List.mem_append_left _ hc)
    have i2 := putL_nodup (b := b) (i := i) (k := k) np r n2 fun c hc => dj c (List.mem_append_right _ hc)
    refine List.nodup_append.mpr ⟨i1, i2, fun c hc e he hce => ?_⟩
    subst hce
    rcases (put_addrs x c).1 hc with h | ⟨hb, h⟩
    · rcases (putL_addrs r c).1 he with h' | ⟨_, h'⟩
      · exact n3 c h c h' rfl
      · exact dj c (List.mem_append_left _ h) h'
    · rcases (putL_addrs r c).1 he with h' | ⟨hb', h'⟩
      · exact dj c (List.mem_append_right _ h') h
      · exact n3 b hb b hb' rfl
end
theorem kvs_snoc {ks : List Str} {xs : List Dc} (k : Str) (p : Dc) (h : ks.length = xs.length) : kvs (ks ++ [k]) (xs ++ [p]) = kvs ks xs ++ [(Sum.inr k, p.val)] := by
  unfold kvs
  rw [List.map_append, List.zip_append (by rw [List.length_map]; exact h), List.map_append]
  rfl
theorem kvs_keys {ks : List Str} {xs : List Dc} (h : ks.length = xs.length) : (kvs ks xs).map (·.1) = ks.map Sum.inr := by
  unfold kvs
  rw [List.map_map]
  have : (fun p : Str × V => (Sum.inr p.1 : Key)) = (Sum.inr : Str → Key) ∘ Prod.fst := rfl
  show List.map ((fun p : Key × V => p.1) ∘ fun p : Str × V => (Sum.inr p.1, p.2)) (ks.zip (xs.map val)) = _
  have e : ((fun p : Key × V => p.1) ∘ fun p : Str × V => ((Sum.inr p.1 : Key), p.2)) = (Sum.inr : Str → Key) ∘ Prod.fst := rfl
  rw [e, ← List.map_map, List.map_fst_zip (by rw [List.length_map]; omega)]
mutual
theorem put_at {H H' : Hp} {b : Addr} {i : Nat} {k : Str} {p : Dc} (hp : p.At H') (hrow : ∀ vs, Rd H b (.lst vs) → H' b = some (.lst (vs.take i ++ p.val :: vs.drop i)))
    (htab : ∀ kv, Rd H b (.dK kv) → (Sum.inr k : Key) ∉ kv.map (·.1) ∧ H' b = some (.dK (kv ++ [(Sum.inr k, p.val)]))) :
    ∀ d : Dc, (∀ a ∈ d.addrs, a ≠ b → ∀ o, H a = some o → H' a = some o) → d.addrs.Nodup → d.At H → (put b i k p d).At H'
  | leaf v, _, _, h => h
  | row a xs, f, n, h => by
    simp only [addrs, List.nodup_cons] at n
    simp only [At] at h
    simp only [put]
    by_cases e : a = b
    · rw [if_pos e]
      subst e
      have keep : AtL H' xs := atL_frame xs (fun c hc => f c (by simp only [addrs]; exact List.mem_cons_of_mem _ hc) fun z => n.1 (z ▸ hc)) h.2
      simp only [At]
      have ks : AtL H' (xs.take i) ∧ AtL H' (xs.drop i) := (AtL_append _ _).mp (by rw [List.take_append_drop]; exact keep)
      refine ⟨?_, (AtL_append _ _).mpr ⟨ks.1, by simp only [AtL]; exact ⟨hp, ks.2⟩⟩⟩
      refine .inl ?_
      rw [hrow _ h.1, List.map_append, List.map_cons, List.map_take, List.map_drop]
    · rw [if_neg e]
      simp only [At]
      refine ⟨?_, putL_at hp hrow htab xs (fun c hc => f c (by simp only [addrs]; exact List.mem_cons_of_mem _ hc)) n.2 h.2⟩
      rw [putL_val]
      exact h.1.up (f a (by simp [addrs]) e)
  | tab a ks xs, f, n, h => by
    simp only [addrs, List.nodup_cons] at n
    simp only [At] at h
    simp only [put]
    by_cases e : a = b
    · rw [if_pos e]
      subst e
      have keep : AtL H' xs := atL_frame xs (fun c hc => f c (by simp only [addrs]; exact List.mem_cons_of_mem _ hc) fun z => n.1 (z ▸ hc)) h.2.2.2
      simp only [At]
      obtain ⟨nk, d⟩ := htab _ h.1
      rw [kvs_keys h.2.1] at nk
      refine ⟨by rw [kvs_snoc k p h.2.1]; exact .inl d, by rw [List.length_append, List.length_append, h.2.1]; rfl, ?_, (AtL_append _ _).mpr ⟨keep, by simp only [AtL]; exact ⟨hp, trivial⟩⟩⟩
      refine List.nodup_append.mpr ⟨h.2.2.1, by simp, fun c hc e he hce => ?_⟩
      rw [List.mem_singleton.mp he] at hce
      subst hce
      exact nk (List.mem_map.mpr ⟨c, hc, rfl⟩)
    · rw [if_neg e]
      simp only [At]
      refine ⟨?_, by rw [putL_length]; exact h.2.1, h.2.2.1, putL_at hp hrow htab xs (fun c hc => f c (by simp only [addrs]; exact List.mem_cons_of_mem _ hc)) n.2 h.2.2.2⟩
      have ev : kvs ks (putL b i k p xs) = kvs ks xs := by unfold kvs; rw [putL_val]
      rw [ev]
      exact h.1.up (f a (by simp [addrs]) e)
theorem putL_at {H H' : Hp} {b : Addr} {i : Nat} {k : Str} {p : Dc} (hp : p.At H') (hrow : ∀ vs, Rd H b (.lst vs) → H' b = some (.lst (vs.take i ++ p.val :: vs.drop i)))
    (htab : ∀ kv, Rd H b (.dK kv) → (Sum.inr k : Key) ∉ kv.map (·.1) ∧ H' b = some (.dK (kv ++ [(Sum.inr k, p.val)]))) :
    ∀ xs : List Dc, (∀ a ∈ addrsL xs, a ≠ b → ∀ o, H a = some o → H' a = some o) → (addrsL xs).Nodup → AtL H xs → AtL H' (putL b i k p xs)
  | [], _, _, h => h
  | x :: r, f, n, h => by
    simp only [addrsL] at n f
    obtain ⟨n1, n2, n3⟩ := List.nodup_append.mp n
    simp only [putL, AtL] at h ⊢
    exact ⟨put_at hp hrow htab x (fun c hc => f c (List.mem_append_left _ hc)) n1 h.1, putL_at hp hrow htab r (fun c hc => f c (List.mem_append_right _ hc)) n2 h.2⟩
end
mutual
theorem holder_at {H : Hp} {b : Addr} : ∀ d : Dc, d.At H → b ∈ d.addrs → (∃ vs, Rd H b (.lst vs) ∧ vs.length < d.size) ∨ ∃ ks : List Str, ∃ kv, Rd H b (.dK kv) ∧ kv.map (·.1) = ks.map Sum.inr ∧ kv.length < d.size
  | leaf v, _, h => by simp [addrs] at h
  | row a xs, h, hb => by
    simp only [At] at h
    simp only [addrs, List.mem_cons] at hb
    simp only [size]
    rcases hb with rfl | hb
    · refine .inl ⟨_, h.1, ?_⟩
      rw [List.length_map]
      have := lenL xs
      omega
    · rcases holderL_at xs h.2 hb with ⟨vs, e, l⟩ | ⟨ks, kv, e, z, l⟩
      · exact .inl ⟨vs, e, by omega⟩
      · exact .inr ⟨ks, kv, e, z, by omega⟩
  | tab a ks xs, h, hb => by
    simp only [At] at h
    simp only [addrs, List.mem_cons] at hb
    simp only [size]
    rcases hb with rfl | hb
    · refine .inr ⟨ks, _, h.1, kvs_keys h.2.1, ?_⟩
      have e : (kvs ks xs).length = ks.length := by
        have := congrArg List.length (kvs_keys (ks := ks) (xs := xs) h.2.1)
        simpa using this
      rw [e, h.2.1]
      have := lenL xs
      omega
    · rcases holderL_at xs h.2.2.2 hb with ⟨vs, e, l⟩ | ⟨ks, kv, e, z, l⟩
      · exact .inl ⟨vs, e, by omega⟩
      · exact .inr ⟨ks, kv, e, z, by omega⟩
theorem holderL_at {H : Hp} {b : Addr} : ∀ xs : List Dc, AtL H xs → b ∈ addrsL xs → (∃ vs, Rd H b (.lst vs) ∧ vs.length < sizeL xs) ∨ ∃ ks : List Str, ∃ kv, Rd H b (.dK kv) ∧ kv.map (·.1) = ks.map Sum.inr ∧ kv.length < sizeL xs
  | [], _, h => by simp [addrsL] at h
  | x :: r, h, hb => by
    simp only [AtL] at h
    simp only [addrsL, List.mem_append] at hb
    simp only [sizeL]
    rcases hb with hb | hb
    · rcases holder_at x h.1 hb with ⟨vs, e, l⟩ | ⟨ks, kv, e, z, l⟩
      · exact .inl ⟨vs, e, by omega⟩
      · exact .inr ⟨ks, kv, e, z, by omega⟩
    · rcases holderL_at r h.2 hb with ⟨vs, e, l⟩ | ⟨ks, kv, e, z, l⟩
      · exact .inl ⟨vs, e, by omega⟩
      · exact .inr ⟨ks, kv, e, z, by omega⟩
theorem lenL : ∀ xs : List Dc, xs.length ≤ sizeL xs
  | [] => Nat.le_refl _
  | x :: r => by
    have := lenL r
    have := size_pos x
    simp only [sizeL, List.length_cons]
    omega
end
end Dc
end L2

set_option Elab.async false
set_option linter.all false
set_option maxRecDepth 100000
set_option maxHeartbeats 4000000
namespace L2
open PySem PySem.Spec PyProof.Rows
section
variable {X : Cx}
inductive r_op_eqEI (K : PySem.W.Frag) (x : V) (y : V) (H : Hp) (Q : VK) : Prop
  | mk (a : Addr) (b : Addr) (xs : List V) (h0_ : x = .ref a) (h1_ : y = .ref b) (h2_ : SqL K H a xs) (h3_ : SqL K H b []) (h4_ : Q (.bl xs.isEmpty) H) : r_op_eqEI K x y H Q
def r_op_eqE (K : PySem.W.Frag) : V → V → Hp → VK → Prop := fun x y H Q => r_op_eqEI K x y H Q
theorem op_eqE (hu : X.A.units < cLine) : OpR X (compareOp .Eq) (r_op_eqE X.K) := by
  intro pins s σ H x y v u Q I rx ry h
  obtain ⟨a, b, xs, rfl, rfl, ha, hb, q⟩ := h
  cases rx
  cases ry
  obtain ⟨its, r1, p1, _⟩ := I.list ha
  obtain ⟨its2, r2, p2, _⟩ := I.list hb
  cases r2
  have l1 := r1.length
  cases xs with
  | nil =>
    cases r1
    exact SeqAt.eq_listAt (e := fun _ => true) p1.isList p2.isList rfl hu (fun j h1 _ => absurd h1 (by simp)) ⟨.bl true, H, I, rfl, q⟩
  | cons z zs =>
    refine SeqAt.eq_list_lengthsAt p1.isList p2.isList ?_ hu ⟨.bl false, H, I, rfl, q⟩
    rw [List.size_toArray, ← l1]
    simp
inductive r_op_neEI (K : PySem.W.Frag) (x : V) (y : V) (H : Hp) (Q : VK) : Prop
  | mk (a : Addr) (b : Addr) (xs : List V) (h0_ : x = .ref a) (h1_ : y = .ref b) (h2_ : SqL K H a xs) (h3_ : SqL K H b []) (h4_ : Q (.bl (!xs.isEmpty)) H) : r_op_neEI K x y H Q
def r_op_neE (K : PySem.W.Frag) : V → V → Hp → VK → Prop := fun x y H Q => r_op_neEI K x y H Q
theorem op_neE (hu : X.A.units < cLine) : OpR X (compareOp .NotEq) (r_op_neE X.K) := by
  intro pins s σ H x y v u Q I rx ry h
  obtain ⟨a, b, xs, rfl, rfl, ha, hb, q⟩ := h
  cases rx
  cases ry
  obtain ⟨its, r1, p1, _⟩ := I.list ha
  obtain ⟨its2, r2, p2, _⟩ := I.list hb
  cases r2
  have l1 := r1.length
  cases xs with
  | nil =>
    cases r1
    exact SeqAt.RcNeAt.lists (e := fun _ => true) p1.isList p2.isList rfl hu (fun j h1 _ => absurd h1 (by simp)) _ _ _ _ ⟨.bl false, H, I, rfl, q⟩
  | cons z zs =>
    refine SeqAt.RcNeAt.lists_lengths p1.isList p2.isList ?_ hu _ _ _ _ ⟨.bl true, H, I, rfl, q⟩
    rw [List.size_toArray, ← l1]
    simp
def eqTs (xs ys : List V) : Bool := ((List.range (min xs.length ys.length)).all fun j => eqV (xs.getD j .non) (ys.getD j .non)) && xs.length == ys.length
inductive r_op_eqTI (K : PySem.W.Frag) (x : V) (y : V) (H : Hp) (Q : VK) : Prop
  | mk (a : Addr) (b : Addr) (xs : List V) (ys : List V) (h0_ : x = .ref a) (h1_ : y = .ref b) (h2_ : SqT K H a xs) (h3_ : SqT K H b ys) (h4_ : (∀ z ∈ xs, flatV z = true)) (h5_ : (∀ z ∈ ys, flatV z = true)) (h6_ : Q (.bl (eqTs xs ys)) H) : r_op_eqTI K x y H Q
theorem isinst_tup {pins : List (Addr × Obj)} {σ : St} {H : Hp} {s : Shared} {A : Around} {E : Value → Shared → Prop} {Q : Value → Shared → Prop} {x : V} {u : Value} {T : String} {tp : Addr} {dd : Option Addr} {its : List Value} {n : Nat} {sl : Array (Option Value)} {b : Bool}
    (I : Inv X pins σ H s) (rx : RelV x u) (ty : TyN H x T) (htp : s.heap.get? tp = some ⟨.type "tuple", dd, .seq its.toArray n, sl⟩) (e : PySem.W.kitAny X.K (.type T) its = some b) (h : ∀ tk, Q (.bool b) { s with toks := tk }) :
    wpAny (model X.prog X.w) A (call (.builtin "isinstance") [u, .ref tp]) Q E s := by
  cases ty with
  | non => cases (show u = Value.none from rx); exact PySem.W.kia_tup PySem.W.kitx_none I.kIn True.intro htp e (fun z => nomatch z) h
  | bl y => cases (show u = Value.bool y from rx); exact PySem.W.kia_tup PySem.W.kitx_bool I.kIn True.intro htp e (fun z => nomatch z) h
  | int i => obtain ⟨t, q⟩ := (show ∃ t, u = Value.int i t from rx); cases q; exact PySem.W.kia_tup PySem.W.kitx_int I.kIn True.intro htp e (fun z => nomatch z) h
  | str y => obtain ⟨t, q⟩ := (show ∃ t, u = Value.str y t from rx); cases q; exact PySem.W.kia_tup PySem.W.kitx_str I.kIn True.intro htp e (fun z => nomatch z) h
  | @lst a xs ea =>
    cases (show u = Value.ref a from rx)
    obtain ⟨_, _, n, _, h1⟩ := (show ObjOk X.prog X.w H s.heap a (.lst xs) from ea.ok I.hok)
    exact PySem.W.kia_tup PySem.W.kitx_list I.kIn ⟨_, h1, rfl⟩ htp e (fun z => nomatch z) h
  | @tup a xs ea =>
    cases (show u = Value.ref a from rx)
    obtain ⟨_, _, _, p⟩ := (show ObjOk X.prog X.w H s.heap a (.tup xs) from I.hok a _ ea)
    obtain ⟨o, h1, h2, _⟩ := p
    exact PySem.W.kia_tup PySem.W.kitx_tuple I.kIn ⟨o, h1, h2⟩ htp e (fun z => nomatch z) h
  | @dK a kvs ea =>
    cases (show u = Value.ref a from rx)
    obtain ⟨_, _, vs, _, p⟩ := (show ObjOk X.prog X.w H s.heap a (.dK kvs) from ea.ok I.hok)
    obtain ⟨o, es, ep, h1, h2, _⟩ := p
    exact PySem.W.kia_tup PySem.W.kitx_dict I.kIn ⟨o, h1, h2.1⟩ htp e (fun z => nomatch z) h
def isiLD (T : String) : Bool := T == "list" || T == "dict"
theorem kit_ld {K : PySem.W.Frag} {H : Hp} {v : V} {T : String} (h : TyN H v T) : PySem.W.kitAny K (.type T) [.type "list", .type "dict"] = some (isiLD T) := by
  cases h <;> kernel_rfl
inductive r_call_isiLDI (xs : List V) (H : Hp) (Q : VK) : Prop
  | mk (x : V) (p : Addr) (T : String) (h0_ : xs = [x, .ref p]) (h1_ : H p = some (.tup [.ty "list", .ty "dict"])) (h2_ : TyN H x T) (h3_ : Q (.bl (isiLD T)) H) : r_call_isiLDI xs H Q
def r_call_isiLD : List V → Hp → VK → Prop := fun xs H Q => r_call_isiLDI xs H Q
theorem call_isiLD : CallR X (.builtin "isinstance") r_call_isiLD := by
  intro pins s σ H xs us Q I r h
  obtain ⟨x, p, T, rfl, hp, ty, q⟩ := h
  obtain ⟨u, w', rfl, ru, rw'⟩ := vals2 r
  cases rw'
  obtain ⟨its, rv, tp, _⟩ := I.tuple (SqT.of hp)
  obtain ⟨⟨cls, dd, data, sl⟩, ho, hc, n, hd⟩ := id tp
  simp only at hc hd
  subst hc hd
  cases rv with
  | cons r1 rr =>
    cases rr with
    | cons r2 rr =>
      cases rr
      cases r1
      cases r2
      exact isinst_tup I ru ty ho (kit_ld ty) fun tk => ⟨.bl _, H, I.tok tk, rfl, q⟩

theorem keys_strs {w : World} {P : Program} {vs : List (Key × Value)} {ss : List Str} (hk : vs.map (·.1) = ss.map Sum.inr) {ws : List Value} (hl : ws.length = vs.length)
    (hv : ∀ (j : Nat) (v : Value), ws[j]? = some v → ∃ k x, vs[j]? = some (k, x) ∧ (mixKind P w).is k v = true) : StrsAre ws ss := by
  induction ss generalizing vs ws with
  | nil =>
    have : vs = [] := by cases vs with | nil => rfl | cons a r => simp at hk
    subst this
    have : ws = [] := List.eq_nil_of_length_eq_zero hl
    subst this
    exact .nil
  | cons x r ih =>
    cases vs with
    | nil => simp at hk
    | cons a vs =>
      simp only [List.map_cons, List.cons.injEq] at hk
      cases ws with
      | nil => simp at hl
      | cons u ws =>
        obtain ⟨k, y, e, hi⟩ := hv 0 u rfl
        have e : a = (k, y) := by simpa using e
        subst e
        have hk1 : k = Sum.inr x := hk.1
        subst hk1
        have hi : keyIs (Sum.inr x) u = true := hi
        rcases keyIs_shape hi with ⟨i, t, e1, _⟩ | ⟨z, t, e1, e2⟩
        · cases e1
        · cases e1
          subst e2
          exact .cons _ t (ih hk.2 (by simpa using hl) fun j v hj => hv (j + 1) v (by simpa using hj))
theorem vals_strs {us : List Value} {ys : List Str} (h : StrsAre us ys) : Vals (ys.map V.str) us := by
  induction h with
  | nil => exact .nil
  | cons n t _ ih => exact .cons ⟨t, rfl⟩ ih
inductive r_call_sortedDI (xs : List V) (H : Hp) (Q : VK) : Prop
  | mk (d : Addr) (kv : List (Key × V)) (ss : List Str) (h0_ : xs = [.ref d]) (h1_ : Rd H d (.dK kv)) (h2_ : kv.map (·.1) = ss.map Sum.inr) (h3_ : kv.length < 64) (h4_ : ∀ (p : Addr) (ss' : List Str) (H' : Hp), H p = none → Same H H' → H' p = some (.lst (ss'.map V.str)) → ss'.Perm ss → sortedS ss' = true → Q (.ref p) H') : r_call_sortedDI xs H Q
def r_call_sortedD : List V → Hp → VK → Prop := fun xs H Q => r_call_sortedDI xs H Q
theorem call_sortedD (hc : X.calm = true) : CallR X (.builtin "sorted") r_call_sortedD := by
  intro pins s σ H xs us Q I r h
  obtain ⟨d, kv, ss, rfl, hd, hk, h64, q⟩ := h
  obtain ⟨u, rfl, ru⟩ := vals1 r
  cases ru
  obtain ⟨z, hm, vs, rel, dd⟩ := dk_rd I.hok hd
  have hin : X.A.in1.handled = none := I.ok.hd hc
  have hlv : vs.length = kv.length := rel.length.symm
  have hkv : vs.map (·.1) = ss.map Sum.inr := by rw [← hk]; exact (KV.keys rel).symm
  obtain ⟨ep, hat⟩ := dd.dictAt
  have hz : vs.length ≤ sizeLine := by rw [hlv]; exact z
  refine Calls.call_function_entry kind_sorted plain_sorted entry_sorted (args_sorted1 _) ?_
  unfold Builtin.«sorted»
  refine wpAny_bind (m := checkCount "sorted" 1 1 _) (wpAny_pure (wpAny_bind (PySem.W.kdu_collect (PySem.W.kdl_dict (knd := mixKind X.prog X.w) (kvs := vs) (ep := ep) hm) hin hat hz fun h' tk acc keep items => ?_)))
  have hl : acc.toList.length = vs.length := by rw [Array.length_toList]; exact items.1
  have hS : StrsAre acc.toList ss := keys_strs (P := X.prog) (w := X.w) hkv hl fun j v e => items.2 j v (by rw [← Array.getElem?_toList]; exact e)
  refine wpAny_bind (wpAny_newList ?_ (by rw [hl]; exact hz))
  have hnew : (h'.push { cls := .type "list", data := .seq acc.toList.toArray }).get? h'.objs.size = some (seqObj "list" acc.toList.toArray 0) := Heap.get?_push_size _ rfl
  refine wpAny_bind (wpAny_holding (wpAny_call_entry slot_list_sort ⟨_, hnew, rfl⟩ entry_list_sort (list_sort_treeK strKind_oneLt hnew hS.keysOf (fun v₁ v₂ rest e => keyKind_strs (by rw [← e]; exact hS)) (by rw [hl, hlv]; exact h64) fun st' a1 a2 => ⟨_, rfl, ?_⟩) (args_list_sort _)))
  obtain ⟨ss', b1, b2, b3⟩ := sorted_out_str hS a1 a2
  obtain ⟨ee, he⟩ := sortedHeap_at (out := (arrOf st').map (·.2)) hnew
  refine wpAny_pure ⟨_, rfl, ?_⟩
  have szp : (h'.push { cls := .type "list", data := .seq acc.toList.toArray }).objs.size = h'.objs.size + 1 := size_push' ..
  have I1 := I.kept (t' := tk) keep
  have k2 : ∀ b o, h'.get? b = some o → (sortedHeap (h'.push { cls := .type "list", data := .seq acc.toList.toArray }) h'.objs.size acc.toList ((arrOf st').map (·.2))).get? b = some o := fun b o e => by
    have hb : b < h'.objs.size := Heap.lt_size e
    rw [sortedHeap_old (Nat.ne_of_lt hb) (by rw [szp]; exact Nat.lt_succ_of_lt hb)]
    exact Heap.get?_push_of_some _ e
  have hss : ss'.length ≤ sizeLine := by
    rw [b2.length_eq]
    have := congrArg List.length hk
    rw [List.length_map, List.length_map] at this
    rw [← this]
    exact z
  have new : ObjOk X.prog X.w (upd H h'.objs.size (.lst (ss'.map V.str))) (sortedHeap (h'.push { cls := .type "list", data := .seq acc.toList.toArray }) h'.objs.size acc.toList ((arrOf st').map (·.2))) h'.objs.size (.lst (ss'.map V.str)) :=
    ⟨by rw [List.length_map]; exact hss, ((arrOf st').map (·.2)).toList, ee, vals_strs b1, by rw [Array.toArray_toList]; exact he⟩
  have hf : H h'.objs.size = none := I1.fresh
  exact ⟨.ref h'.objs.size, _, I1.laid (t' := tk) k2 (Nat.le_refl _) new, rfl, q _ ss' _ hf (Same.new hf) upd_same b2 b3⟩
end
end L2

set_option Elab.async false
set_option linter.all false
set_option maxRecDepth 100000
set_option maxHeartbeats 4000000
namespace L2
open PySem PySem.Spec PyProof.Rows
structure Txt (mg : Str → Option Value) : Prop where
  isinstance : mg "isinstance" = none
  int : mg "int" = none
  bool : mg "bool" = none
  str : mg "str" = none
  list : mg "list" = none
  dict : mg "dict" = none
  tuple : mg "tuple" = none
  len : mg "len" = none
  range : mg "range" = none
  max : mg "max" = none
  min : mg "min" = none
  sorted : mg "sorted" = none
  all : mg "all" = none
  any : mg "any" = none
  reversed : mg "reversed" = none
  ValueError : mg "ValueError" = none
  sum : mg "sum" = none
theorem b_isinstance : bootBuiltins "isinstance" = some (.builtin "isinstance") := by decide +kernel
theorem b_int : bootBuiltins "int" = some (.type "int") := by decide +kernel
theorem b_bool : bootBuiltins "bool" = some (.type "bool") := by decide +kernel
theorem b_str : bootBuiltins "str" = some (.type "str") := by decide +kernel
theorem b_list : bootBuiltins "list" = some (.type "list") := by decide +kernel
theorem b_dict : bootBuiltins "dict" = some (.type "dict") := by decide +kernel
theorem b_max : bootBuiltins "max" = some (.builtin "max") := by decide +kernel
theorem b_min : bootBuiltins "min" = some (.builtin "min") := by decide +kernel
theorem b_sorted : bootBuiltins "sorted" = some (.builtin "sorted") := by decide +kernel
theorem b_all : bootBuiltins "all" = some (.builtin "all") := by decide +kernel
theorem iteBF {c : Bool} {A B : Prop} (hc : c = false) (h : B) : if c = true then A else B := by
  rw [hc]
  exact iteF h
theorem iteBT {c : Bool} {A B : Prop} (hc : c = true) (h : A) : if c = true then A else B := by
  rw [hc]
  exact iteT h
theorem pick_mem {α : Type} {xs : List α} {i : Int} (h0 : 0 ≤ i) (h1 : i < (xs.length : Int)) : ∃ v, atI xs i = some v ∧ v ∈ xs := by
  obtain ⟨n, rfl⟩ := Int.eq_ofNat_of_zero_le h0
  have hn : n < xs.length := by omega
  exact ⟨xs[n], atI_nat (List.getElem?_eq_getElem hn), List.getElem_mem hn⟩
inductive DfE (P : Program) (w : World) (K : PySem.W.Frag) (mg : Str → Option Value) (base : Heap) (x : Str) (ps : List Str) (n : Nat) (sp : Sp) : Prop
  | mk (f : Addr) (fd : FuncData) (k : PySem.W.keepIn K (.ref f) = true) (b : Binds K fd ps []) (m : mg x = some (.ref f)) (G : FnOk P w K mg base CX0 n f fd ps sp) : DfE P w K mg base x ps n sp
structure Df (P : Program) (w : World) (K : PySem.W.Frag) (mg : Str → Option Value) (base : Heap) (x : Str) (ps : List Str) (n : Nat) (sp : Sp) : Prop where
  ex : DfE P w K mg base x ps n sp
theorem Df.mk' {P : Program} {w : World} {K : PySem.W.Frag} {mg : Str → Option Value} {base : Heap} {x q : Str} {st : Stmt} {ps : List Str} {n : Nat} {sp : Sp} {f : Addr} {fd : FuncData} (F : Fun K x q st f fd) (b : Binds K fd ps []) (m : mg x = some (.ref f)) (G : FnOk P w K mg base CX0 n f fd ps sp) : Df P w K mg base x ps n sp := ⟨⟨f, fd, F.kp, b, m, G⟩⟩
theorem Df.mono {P : Program} {w : World} {K : PySem.W.Frag} {mg : Str → Option Value} {base : Heap} {x : Str} {ps : List Str} {n k : Nat} {sp : Sp} (D : Df P w K mg base x ps n sp) (h : n ≤ k) : Df P w K mg base x ps k sp := by
  obtain ⟨f, fd, k1, b, m, G⟩ := D.ex
  exact ⟨⟨f, fd, k1, b, m, G.mono h⟩⟩
theorem mod_b (r : Int) {n : Int} (h : 0 < n) : 0 ≤ r % n ∧ r % n < n := ⟨Int.emod_nonneg _ (by omega), Int.emod_lt_of_pos _ h⟩
def Chg (b : Addr) (H H' : Hp) : Prop := ∀ a o, a ≠ b → H a = some o → H' a = some o
theorem Chg.upd {b : Addr} {H : Hp} {o : HO} : Chg b H (L2.upd H b o) := fun a u h e => by rw [upd_ne h]; exact e
theorem Chg.of {b : Addr} {H H1 H2 : Hp} (s : Same H H1) (c : Chg b H1 H2) : Chg b H H2 := fun a u h e => c a u h (s a u e)
end L2

set_option Elab.async false
set_option linter.all false
set_option maxRecDepth 100000
set_option maxHeartbeats 4000000
namespace L2
open PySem PySem.Spec PyProof.Rows
def txtB (x : Str) : Bool := decide (x.length ≤ 12) && (sgn x).all isL
def LeafV (v : V) : Prop := (∃ i : Int, v = .int i ∧ i.natAbs < 2 ^ 400) ∨ ∃ x : Str, v = .str x ∧ txtB x = true
theorem txtB_len {x : Str} (h : txtB x = true) : x.length ≤ 12 := by
  unfold txtB at h
  simp only [Bool.and_eq_true, decide_eq_true_eq] at h
  exact h.1
theorem LeafV.lf {v : V} (h : LeafV v) : Dc.Lf v := by
  rcases h with ⟨i, rfl, _⟩ | ⟨x, rfl, h⟩
  · exact .inl ⟨i, rfl⟩
  · exact .inr ⟨x, rfl, Nat.le_trans (txtB_len h) (by decide)⟩
theorem nameB_len {x : Str} (h : nameB x = true) : 1 ≤ x.length ∧ x.length ≤ 8 := by
  have := nameS_len h
  rw [sgn_length] at this
  exact ⟨this.1, this.2.1⟩
namespace Dc
mutual
def ok : Dc → Prop
  | leaf v => LeafV v
  | row _ xs => okL xs
  | tab _ ks xs => (∀ k ∈ ks, nameB k = true) ∧ okL xs
def okL : List Dc → Prop
  | [] => True
  | x :: r => ok x ∧ okL r
end
theorem okL_iff : ∀ {xs : List Dc}, okL xs ↔ ∀ x ∈ xs, ok x
  | [] => by simp [okL]
  | x :: r => by simp only [okL, List.forall_mem_cons, okL_iff (xs := r)]
mutual
theorem put_ok {b : Addr} {i : Nat} {k : Str} {p : Dc} (hp : p.ok) (hk : nameB k = true) : ∀ d : Dc, d.ok → (put b i k p d).ok
  | leaf v, h => h
  | row a xs, h => by
    simp only [put]
    split
    · simp only [ok] at h ⊢
      rw [okL_iff] at h ⊢
      intro x hx
      rcases List.mem_append.mp hx with hx | hx
      · exact h x (List.mem_of_mem_take hx)
      · rcases List.mem_cons.mp hx with rfl | hx
        · exact hp
        · exact h x (List.mem_of_mem_drop hx)
    · simp only [ok] at h ⊢
      exact putL_ok hp hk xs h
  | tab a ks xs, h => by
    simp only [put]
    simp only [ok] at h
    split
    · simp only [ok]
      refine ⟨fun x hx => ?_, ?_⟩
      · rcases List.mem_append.mp hx with hx | hx
        · exact h.1 x hx
        · rw [List.mem_singleton.mp hx]; exact hk
      · rw [okL_iff]
        intro x hx
        rcases List.mem_append.mp hx with hx | hx
        · exact okL_iff.mp h.2 x hx
        · rw [List.mem_singleton.mp hx]; exact hp
    · simp only [ok]
      exact ⟨h.1, putL_ok hp hk xs h.2⟩
theorem putL_ok {b : Addr} {i : Nat} {k : Str} {p : Dc} (hp : p.ok) (hk : nameB k = true) : ∀ xs : List Dc, okL xs → okL (putL b i k p xs)
  | [], h => h
  | x :: r, h => by
    simp only [okL, putL] at h ⊢
    exact ⟨put_ok hp hk x h.1, putL_ok hp hk r h.2⟩
end
mutual
def named (N : List Str) : Dc → Prop
  | leaf _ => True
  | row _ xs => namedL N xs
  | tab _ ks xs => (∀ k ∈ ks, k ∈ N) ∧ namedL N xs
def namedL (N : List Str) : List Dc → Prop
  | [] => True
  | x :: r => named N x ∧ namedL N r
end
theorem namedL_iff {N : List Str} : ∀ {xs : List Dc}, namedL N xs ↔ ∀ x ∈ xs, named N x
  | [] => by simp [namedL]
  | x :: r => by simp only [namedL, List.forall_mem_cons, namedL_iff (xs := r)]
mutual
theorem put_named {N : List Str} {b : Addr} {i : Nat} {k : Str} {p : Dc} (hp : p.named N) (hk : k ∈ N) : ∀ d : Dc, d.named N → (put b i k p d).named N
  | leaf v, h => h
  | row a xs, h => by
    simp only [put]
    split
    · simp only [named] at h ⊢
      rw [namedL_iff] at h ⊢
      intro x hx
      rcases List.mem_append.mp hx with hx | hx
      · exact h x (List.mem_of_mem_take hx)
      · rcases List.mem_cons.mp hx with rfl | hx
        · exact hp
        · exact h x (List.mem_of_mem_drop hx)
    · simp only [named] at h ⊢
      exact putL_named hp hk xs h
  | tab a ks xs, h => by
    simp only [put]
    simp only [named] at h
    split
    · simp only [named]
      refine ⟨fun x hx => ?_, ?_⟩
      · rcases List.mem_append.mp hx with hx | hx
        · exact h.1 x hx
        · rw [List.mem_singleton.mp hx]; exact hk
      · rw [namedL_iff]
        intro x hx
        rcases List.mem_append.mp hx with hx | hx
        · exact namedL_iff.mp h.2 x hx
        · rw [List.mem_singleton.mp hx]; exact hp
    · simp only [named]
      exact ⟨h.1, putL_named hp hk xs h.2⟩
theorem putL_named {N : List Str} {b : Addr} {i : Nat} {k : Str} {p : Dc} (hp : p.named N) (hk : k ∈ N) : ∀ xs : List Dc, namedL N xs → namedL N (putL b i k p xs)
  | [], h => h
  | x :: r, h => by
    simp only [namedL, putL] at h ⊢
    exact ⟨put_named hp hk x h.1, putL_named hp hk r h.2⟩
end
def Bare : Dc → Prop
  | leaf v => LeafV v
  | row _ xs => xs = []
  | tab _ ks xs => ks = [] ∧ xs = []
theorem Bare.ok {p : Dc} (h : Bare p) : p.ok := by
  cases p with
  | leaf v => exact h
  | row a xs => cases (show xs = [] from h); simp [Dc.ok, okL]
  | tab a ks xs => obtain ⟨rfl, rfl⟩ := (show ks = [] ∧ xs = [] from h); simp [Dc.ok, okL]
theorem Bare.named {p : Dc} {N : List Str} (h : Bare p) : p.named N := by
  cases p with
  | leaf v => trivial
  | row a xs => cases (show xs = [] from h); simp [Dc.named, namedL]
  | tab a ks xs => obtain ⟨rfl, rfl⟩ := (show ks = [] ∧ xs = [] from h); simp [Dc.named, namedL]
theorem Bare.size {p : Dc} (h : Bare p) : p.size = 1 := by
  cases p with
  | leaf v => rfl
  | row a xs => cases (show xs = [] from h); simp [Dc.size, sizeL]
  | tab a ks xs => obtain ⟨rfl, rfl⟩ := (show ks = [] ∧ xs = [] from h); simp [Dc.size, sizeL]
theorem Bare.nodup {p : Dc} (h : Bare p) : p.addrs.Nodup := by
  cases p with
  | leaf v => simp [addrs]
  | row a xs => cases (show xs = [] from h); simp [addrs, addrsL]
  | tab a ks xs => obtain ⟨rfl, rfl⟩ := (show ks = [] ∧ xs = [] from h); simp [addrs, addrsL]
def tyS : Dc → String
  | leaf (.int _) => "int"
  | leaf _ => "str"
  | row _ _ => "list"
  | tab _ _ _ => "dict"
theorem tyN {H : Hp} {d : Dc} (h : d.At H) : TyN H d.val d.tyS := by
  cases d with
  | leaf v =>
    rcases (show Lf v from h) with ⟨i, rfl⟩ | ⟨x, rfl, _⟩
    · exact .int i
    · exact .str x
  | row a xs => simp only [At] at h; exact .lst h.1
  | tab a ks xs => simp only [At] at h; exact .dK h.1
def sub : Dc → List V → Option Dc
  | d, [] => some d
  | row _ xs, .int i :: r => if 0 ≤ i then (xs[i.toNat]?).bind fun x => sub x r else none
  | tab _ ks xs, .str k :: r => ((ks.zip xs).lookup k).bind fun x => sub x r
  | _, _ => none
def StepV (v : V) : Prop := (∃ k : Nat, v = .int (k : Int)) ∨ ∃ x : Str, v = .str x ∧ nameB x = true
theorem StepV.flat {v : V} (h : StepV v) : flatV v = true := by
  rcases h with ⟨k, rfl⟩ | ⟨x, rfl, _⟩ <;> rfl
theorem mem_zip_lookup {ks : List Str} {xs : List Dc} {k : Str} {x : Dc} (h : (ks.zip xs).lookup k = some x) : k ∈ ks ∧ x ∈ xs := by
  induction ks generalizing xs with
  | nil => simp at h
  | cons y r ih =>
    cases xs with
    | nil => simp at h
    | cons z zs =>
      simp only [List.zip_cons_cons, List.lookup_cons] at h
      by_cases e : k = y
      · subst e
        simp at h
        subst h
        exact ⟨List.mem_cons_self, List.mem_cons_self⟩
      · have : (k == y) = false := by simpa using e
        rw [this] at h
        have := ih h
        exact ⟨List.mem_cons_of_mem _ this.1, List.mem_cons_of_mem _ this.2⟩
theorem valV_kvs {ks : List Str} {xs : List Dc} (h : ks.length = xs.length) (k : Str) : valV (kvs ks xs) (Sum.inr k) = ((ks.zip xs).lookup k).map val := by
  induction ks generalizing xs with
  | nil => simp [kvs, valV_nil]
  | cons y r ih =>
    cases xs with
    | nil => simp at h
    | cons z zs =>
      have e : kvs (y :: r) (z :: zs) = (Sum.inr y, z.val) :: kvs r zs := rfl
      rw [e]
      by_cases hk : k = y
      · subst hk
        rw [valV_pos rfl]
        simp
      · rw [valV_neg (by intro z; exact hk (Sum.inr.inj z).symm), ih (by simpa using h)]
        have : (k == y) = false := by simpa using hk
        simp [List.zip_cons_cons, List.lookup_cons, this]
theorem lookup_of_mem {ks : List Str} {xs : List Dc} (h : ks.length = xs.length) {k : Str} (hk : k ∈ ks) : ∃ x, (ks.zip xs).lookup k = some x ∧ x ∈ xs := by
  induction ks generalizing xs with
  | nil => cases hk
  | cons y r ih =>
    cases xs with
    | nil => simp at h
    | cons z zs =>
      by_cases e : k = y
      · subst e
        exact ⟨z, by simp, List.mem_cons_self⟩
      · obtain ⟨x, h1, h2⟩ := ih (xs := zs) (by simpa using h) ((List.mem_cons.mp hk).resolve_left e)
        refine ⟨x, ?_, List.mem_cons_of_mem _ h2⟩
        have : (k == y) = false := by simpa using e
        simp [List.zip_cons_cons, List.lookup_cons, this, h1]
end Dc
abbrev abc : Str := "abcdefghijklmnopqrstuvwxyz"
theorem abc_len : abc.length = 26 := by decide +kernel
theorem LET_len : LET.length = 26 := by decide +kernel
theorem at_let (i : Int) (h0 : 0 ≤ i) (h1 : i < 26) : ∃ c, atI (sgn abc) i = some c ∧ isL c = true := by
  obtain ⟨n, rfl⟩ := Int.eq_ofNat_of_zero_le h0
  have hn : n < LET.length := by rw [LET_len]; omega
  exact ⟨LET[n], atI_nat (List.getElem?_eq_getElem hn), isL_of_mem (List.getElem_mem hn)⟩
theorem mod26 (r : Int) : 0 ≤ r % 26 ∧ r % 26 < 26 := ⟨Int.emod_nonneg _ (by decide), Int.emod_lt_of_pos _ (by decide)⟩
def OneL (v : V) : Prop := ∃ c, v = .str ⟨#[c]⟩ ∧ isL c = true
theorem oneL_list : ∀ ys : List V, (∀ y ∈ ys, OneL y) → ∃ zs : List Str, ys = zs.map V.str ∧ (∀ z ∈ zs, z.length = 1) ∧ ((zs.map sgn).flatten).length = ys.length ∧ ((zs.map sgn).flatten).all isL = true
  | [], _ => ⟨[], rfl, by simp, rfl, rfl⟩
  | y :: r, h => by
    obtain ⟨c, e, hc⟩ := h y List.mem_cons_self
    obtain ⟨zs, e2, h2, h3, h4⟩ := oneL_list r fun z hz => h z (List.mem_cons_of_mem _ hz)
    refine ⟨⟨#[c]⟩ :: zs, by rw [e, e2]; rfl, ?_, ?_, ?_⟩
    · intro z hz
      rcases List.mem_cons.mp hz with rfl | hz
      · rfl
      · exact h2 z hz
    · show (sgn ⟨#[c]⟩ ++ (zs.map sgn).flatten).length = _
      rw [List.length_append, h3]
      show 1 + r.length = r.length + 1
      omega
    · show (sgn ⟨#[c]⟩ ++ (zs.map sgn).flatten).all isL = true
      rw [List.all_append, h4]
      show ([c].all isL && true) = true
      simp [hc]
inductive spCellI (K : PySem.W.Frag) (vs : List V) (H : Hp) (Q : VK) (u3_ : XK) : Prop
  | mk (a : Addr) (ns : List Int) (k : Nat) (x0 : vs = [.ref a, .int (k : Int)]) (x1 : SqL K H a (ns.map V.int)) (x2 : ∀ r : Int, 0 ≤ r → Q (.int r) H) : spCellI K vs H Q u3_
def spCell (K : PySem.W.Frag) : Sp := fun vs H Q u3_ => spCellI K vs H Q u3_
inductive spMixI (vs : List V) (H : Hp) (Q : VK) (u3_ : XK) : Prop
  | mk (c : Int) (k : Nat) (x0 : vs = [.int c, .int (k : Int)]) (x1 : k ≤ 1000) (x2 : ∀ r : Int, 0 ≤ r → r < 2305843009213693951 → Q (.int r) H) : spMixI  vs H Q u3_
def spMix : Sp := fun vs H Q u3_ => spMixI  vs H Q u3_
def divs : Nat → Int → Int
  | 0, n => n
  | k + 1, n => divs k n / 1000000
def mixN (c : Int) (k : Nat) : Int := (((c + 3) * 1181783497276652981 % 2305843009213693951 + ((k : Int) + 1) * 614889782588491411) % 2305843009213693951) * (((c + 3) * 1181783497276652981 % 2305843009213693951 + ((k : Int) + 1) * 614889782588491411) % 2305843009213693951) % 999999999999999989
def mixF (c : Int) (k : Nat) : Int := if c % 4 = 0 ∧ 4 * 10 ^ 60 ≤ c then divs k (c / 4) % 1000000 else (mixN c k + 1) * (mixN c k / 1000003 + 7) % 2305843009213693951 / 7919
theorem mixF_b (c : Int) (k : Nat) : 0 ≤ mixF c k ∧ mixF c k < 2305843009213693951 := by
  unfold mixF
  split
  · have h1 := Int.emod_nonneg (divs k (c / 4)) (show (1000000 : Int) ≠ 0 by decide)
    have h2 := Int.emod_lt_of_pos (divs k (c / 4)) (show (0 : Int) < 1000000 by decide)
    omega
  · have h1 := Int.emod_nonneg ((mixN c k + 1) * (mixN c k / 1000003 + 7)) (show (2305843009213693951 : Int) ≠ 0 by decide)
    have h2 := Int.emod_lt_of_pos ((mixN c k + 1) * (mixN c k / 1000003 + 7)) (show (0 : Int) < 2305843009213693951 by decide)
    omega
inductive spMixFI (vs : List V) (H : Hp) (Q : VK) (u3_ : XK) : Prop
  | mk (c : Int) (k : Nat) (x0 : vs = [.int c, .int (k : Int)]) (x1 : k ≤ 1000) (x2 : Q (.int (mixF c k)) H) : spMixFI  vs H Q u3_
def spMixF : Sp := fun vs H Q u3_ => spMixFI  vs H Q u3_
theorem spMix_of {vs : List V} {H : Hp} {Q : VK} {E : XK} (h : spMix vs H Q E) : spMixF vs H Q E := by
  obtain ⟨c, k, e, hk, q⟩ := h
  exact ⟨c, k, e, hk, q _ (mixF_b c k).1 (mixF_b c k).2⟩
theorem nodup_by {ys : List Str} (P : Nat → Str → Prop) (h : ∀ (j : Nat) y, ys[j]? = some y → P j y) (inj : ∀ (i j : Nat) y, i < j → j < ys.length → P i y → P j y → False) : ys.Nodup := by
  refine List.pairwise_iff_getElem.mpr fun i j hi hj hij e => ?_
  have h1 := h i _ (List.getElem?_eq_getElem hi)
  have h2 := h j _ (List.getElem?_eq_getElem hj)
  rw [← e] at h2
  exact inj i j _ hij hj h1 h2
inductive spNamesI (vs : List V) (H : Hp) (Q : VK) (u3_ : XK) : Prop
  | mk (c : Int) (d : Int) (x0 : vs = [.int c, .int d]) (x1 : ∀ (p : Addr) (ys : List Str) (H' : Hp), Same H H' → H p = none → H' p = some (.lst (ys.map V.str)) → ys.length = 6 → ys.Nodup → (∀ y ∈ ys, nameB y = true) → Q (.ref p) H') : spNamesI  vs H Q u3_
def spNames : Sp := fun vs H Q u3_ => spNamesI  vs H Q u3_
inductive spLeafI (vs : List V) (H : Hp) (Q : VK) (u3_ : XK) : Prop
  | mk (c : Int) (x0 : vs = [.int c]) (x1 : ∀ v H', LeafV v → Same H H' → Q v H') : spLeafI  vs H Q u3_
def spLeaf : Sp := fun vs H Q u3_ => spLeafI  vs H Q u3_
inductive spPartI (vs : List V) (H : Hp) (Q : VK) (u3_ : XK) : Prop
  | mk (c : Int) (d : Int) (m : Int) (x0 : vs = [.int c, .int d, .int m]) (x1 : ∀ (p : Dc) (H' : Hp), Same H H' → p.At H' → p.Bare → (∀ a ∈ p.addrs, ∀ o u, H' a ≠ some (.frz o u)) → (∀ a ∈ p.addrs, H a = none) → Q p.val H') : spPartI  vs H Q u3_
def spPart : Sp := fun vs H Q u3_ => spPartI  vs H Q u3_
def LaidAt (N : List Str) (b : Addr) (y : V) (H H' : Hp) : Prop :=
  (∃ vs i, H b = some (.lst vs) ∧ H' b = some (.lst (vs.take i ++ y :: vs.drop i))) ∨ ∃ kv k, H b = some (.dK kv) ∧ (Sum.inr k : Key) ∉ kv.map (·.1) ∧ (nameB k = true ∧ k ∈ N) ∧ H' b = some (.dK (kv ++ [(Sum.inr k, y)]))
inductive spLaidI (K : PySem.W.Frag) (vs : List V) (H : Hp) (Q : VK) (u3_ : XK) : Prop
  | mk (b : Addr) (n : Addr) (y : V) (ys : List Str) (c : Int) (x0 : vs = [.ref b, y, .ref n, .int c]) (x1 : 0 ≤ c) (x2 : SqL K H n (ys.map V.str)) (x3 : ys.length ≤ 100) (x4 : (∀ y ∈ ys, nameB y = true)) (x5 : ((∃ vs, H b = some (.lst vs) ∧ vs.length ≤ 1000) ∨ ∃ kv, H b = some (.dK kv) ∧ kv.length ≤ 1000)) (x6 : (∀ H', Chg b H H' → LaidAt ys b y H H' → Q (.bl true) H')) (x7 : ∀ H', Same H H' → Q (.bl false) H') : spLaidI K vs H Q u3_
def spLaid (K : PySem.W.Frag) : Sp := fun vs H Q u3_ => spLaidI K vs H Q u3_
structure Made (H H' : Hp) (d : Dc) : Prop where
  same : Same H H'
  at_ : d.At H'
  ok : d.ok
  nd : d.addrs.Nodup
  own : ∀ a ∈ d.addrs, ∀ o u, H' a ≠ some (.frz o u)
  new : ∀ a ∈ d.addrs, H a = none
inductive spDocI (K : PySem.W.Frag) (vs : List V) (H : Hp) (Q : VK) (u3_ : XK) : Prop
  | mk (a : Addr) (n : Addr) (ns : List Int) (k : Nat) (ys : List Str) (x0 : vs = [.ref a, .int (k : Int), .ref n]) (x1 : SqL K H a (ns.map V.int)) (x2 : ns.length ≤ 63) (x3 : k ≤ 1000) (x4 : H n = some (.lst (ys.map V.str))) (x5 : ys.length ≤ 100) (x6 : (∀ y ∈ ys, nameB y = true)) (x7 : ∀ (t : Addr) (d : Dc) (H' : Hp), Made H H' d → H' t = some (.tup [d.val, .int (d.size : Int)]) → d.size ≤ 40 → (ys ≠ [] → d.named ys) → Q (.ref t) H') : spDocI K vs H Q u3_
def spDoc (K : PySem.W.Frag) : Sp := fun vs H Q u3_ => spDocI K vs H Q u3_
inductive spDoc2I (K : PySem.W.Frag) (vs : List V) (H : Hp) (Q : VK) (u3_ : XK) : Prop
  | mk (a : Addr) (n : Addr) (ns : List Int) (k : Nat) (ys : List Str) (x0 : vs = [.ref a, .int (k : Int), .ref n]) (x1 : SqL K H a (ns.map V.int)) (x2 : ns.length ≤ 63) (x3 : k ≤ 1000) (x4 : H n = some (.lst (ys.map V.str))) (x5 : ys.length ≤ 100) (x6 : (∀ y ∈ ys, nameB y = true)) (x7 : ∀ (t : Addr) (d : Dc) (H' : Hp), Made H H' d → H' t = some (.tup [d.val, .int (d.size : Int)]) → d.size ≤ 24 → (ys ≠ [] → d.named ys) → Q (.ref t) H') : spDoc2I K vs H Q u3_
inductive spLawI (K : PySem.W.Frag) (vs : List V) (H : Hp) (Q : VK) (u3_ : XK) : Prop
  | mk (a : Addr) (ns : List Int) (x0 : vs = [.ref a]) (x1 : SqL K H a (ns.map V.int)) (x2 : ns.length ≤ 63) (x3 : ∀ H', Q (.bl true) H') : spLawI K vs H Q u3_
def spLaw (K : PySem.W.Frag) : Sp := fun vs H Q u3_ => spLawI K vs H Q u3_
end L2

set_option Elab.async false
set_option linter.all false
set_option maxRecDepth 100000
set_option maxHeartbeats 4000000
namespace L2
open PySem PySem.Spec PyProof.Rows
theorem le_line {n : Nat} (h : n ≤ 1000) : n ≤ sizeLine := Nat.le_of_lt (small1000 h)
theorem two_line {x y : V} : [x, y].length ≤ sizeLine := le_line (show 2 ≤ 1000 by decide)
theorem one_line {x : V} : [x].length ≤ sizeLine := le_line (show 1 ≤ 1000 by decide)
theorem none0 {P : Program} {w : World} {K : PySem.W.Frag} {mg : Str → Option Value} {base : Heap} {f : Addr} {fd : FuncData} {ps : List Str} {sp : Sp} (no : ∀ vs H Q E, ¬ sp vs H Q E) : FnOk P w K mg base CX0 0 f fd ps sp :=
  ⟨fun vs H Q E h => absurd h (no vs H Q E), fun A outer s H args us vs Q E _ _ _ _ h => absurd h (no vs H Q E)⟩
theorem seq_if {t u : TS} {D : Ends} {σ : St} {H : Hp} (R : Hp → Prop) (k : ∀ H', R H' → u D σ H') (h : (∀ H', R H' → u D σ H') → t { D with nx := u D } σ H) : tSeq t u D σ H := h k
theorem Dc.there {H : Hp} {d : Dc} {b : Addr} (h : d.At H) (hb : b ∈ d.addrs) : H b ≠ none := by
  have f : ∀ u, Rd H b u → H b ≠ none := fun u r z => by
    rcases r with r | ⟨o, r⟩ <;> rw [r] at z <;> cases z
  rcases Dc.holder_at d h hb with ⟨vs, e, _⟩ | ⟨ks, kv, e, _⟩
  · exact f _ e
  · exact f _ e
theorem Rd.exact {H : Hp} {b : Addr} {u : HO} (r : Rd H b u) (no : ∀ o u, H b ≠ some (.frz o u)) : H b = some u := r.elim id fun ⟨o, e⟩ => absurd e (no o u)
theorem frz_up {H H' : Hp} {a : Addr} (h : H a ≠ none) (no : ∀ o u, H a ≠ some (.frz o u)) (s : ∀ o, H a = some o → H' a = some o) : ∀ o u, H' a ≠ some (.frz o u) := fun o u e => by
  cases q : H a with
  | none => exact h q
  | some x =>
    rw [s x q] at e
    cases e
    exact no o u q
structure DocInv (H Hi : Hp) (d : Dc) (L : Addr) (ts : List Addr) : Prop where
  made : Made H Hi d
  nL : H L = none
  eL : Hi L = some (.lst (ts.map V.ref))
  out : L ∉ d.addrs
  hold : ∀ t ∈ ts, ∃ b k, Hi t = some (.tup [.ref b, .int k]) ∧ b ∈ d.addrs
theorem Made.up {H H1 H2 : Hp} {d : Dc} (D : Made H H1 d) (s : Same H1 H2) : Made H H2 d := ⟨D.same.trans s, Dc.at_same s D.at_, D.ok, D.nd, fun a ha => frz_up (Dc.there D.at_ ha) (D.own a ha) (s a), D.new⟩
theorem DocInv.up {H H1 H2 : Hp} {d : Dc} {L : Addr} {ts : List Addr} (D : DocInv H H1 d L ts) (s : Same H1 H2) : DocInv H H2 d L ts :=
  ⟨D.made.up s, D.nL, s _ _ D.eL, D.out, fun t ht => let ⟨b, k, e, hb⟩ := D.hold t ht; ⟨b, k, s _ _ e, hb⟩⟩
theorem DocInv.push {H H1 : Hp} {d : Dc} {L t b : Addr} {k : Int} {ts : List Addr} (D : DocInv H H1 d L ts) (ht : H1 t = some (.tup [.ref b, .int k])) (hb : b ∈ d.addrs) : DocInv H (upd H1 L (.lst (ts.map V.ref ++ [.ref t]))) d L (ts ++ [t]) := by
  have fr : ∀ a ∈ d.addrs, ∀ o, H1 a = some o → upd H1 L (.lst (ts.map V.ref ++ [.ref t])) a = some o := fun a ha o e => by
    have hne : a ≠ L := fun z => D.out (by rw [← z]; exact ha)
    rw [upd_ne hne]
    exact e
  refine ⟨⟨D.made.same.put D.nL, Dc.at_frame d fr D.made.at_, D.made.ok, D.made.nd, fun a ha => frz_up (Dc.there D.made.at_ ha) (D.made.own a ha) (fr a ha), D.made.new⟩, D.nL, by rw [upd_same, List.map_append]; rfl, D.out, fun t' ht' => ?_⟩
  · have ne : ∀ {t' : Addr} {xs : List V}, H1 t' = some (.tup xs) → t' ≠ L := fun h => ne_of h D.eL (by intro z; cases z)
    rcases List.mem_append.mp ht' with h | h
    · obtain ⟨b', k', e, hb'⟩ := D.hold t' h
      exact ⟨b', k', by rw [upd_ne (ne e)]; exact e, hb'⟩
    · rw [List.mem_singleton.mp h]
      exact ⟨b, k, by rw [upd_ne (ne ht)]; exact ht, hb⟩
theorem Made.laid {N : List Str} {H H1 H2 H3 : Hp} {d p : Dc} {b : Addr} (D : Made H H1 d) (s : Same H1 H2) (hp : p.At H2) (pk : p.ok) (pn : p.addrs.Nodup) (po : ∀ a ∈ p.addrs, ∀ o u, H2 a ≠ some (.frz o u)) (new : ∀ a ∈ p.addrs, H1 a = none) (hb : b ∈ d.addrs) (c : Chg b H2 H3) (la : LaidAt N b p.val H2 H3) :
    ∃ d' : Dc, d'.val = d.val ∧ d'.size = d.size + p.size ∧ Made H H3 d' ∧ (∀ a ∈ p.addrs, a ∈ d'.addrs) ∧ (∀ a ∈ d.addrs, a ∈ d'.addrs) ∧ (∀ a ∈ d'.addrs, a ∈ d.addrs ∨ a ∈ p.addrs) ∧ p.At H3 ∧ ((∃ y ∈ N, nameB y = true) → p.named N → d.named N → d'.named N) := by
  have dj : ∀ x ∈ d.addrs, x ∉ p.addrs := fun x hx hp' => Dc.there D.at_ hx (new x hp')
  have hp3 : p.At H3 := Dc.at_frame p (fun a ha o e => c a o (fun z => dj b hb (by rw [← z]; exact ha)) e) hp
  have sm : Same H H3 := fun a o e => c a o (ne_of_none e (D.new b hb)) ((D.same.trans s) a o e)
  have fr : ∀ a ∈ d.addrs, a ≠ b → ∀ o, H2 a = some o → H3 a = some o := fun a _ h o e => c a o h e
  have at2 := Dc.at_same s D.at_
  have own3 : ∀ o u, H3 b ≠ some (.frz o u) := fun o u e => by
    rcases la with ⟨vs, i, _, z⟩ | ⟨kv, k, _, _, ⟨_, _⟩, z⟩ <;> rw [z] at e <;> cases e
  have go : ∀ (i : Nat) (k : Str), (nameB k = true) → ((∃ y ∈ N, nameB y = true) → k ∈ N) → (∀ vs, Rd H2 b (.lst vs) → H3 b = some (.lst (vs.take i ++ p.val :: vs.drop i))) → (∀ kv, Rd H2 b (.dK kv) → (Sum.inr k : Key) ∉ kv.map (·.1) ∧ H3 b = some (.dK (kv ++ [(Sum.inr k, p.val)]))) →
      ∃ d' : Dc, d'.val = d.val ∧ d'.size = d.size + p.size ∧ Made H H3 d' ∧ (∀ a ∈ p.addrs, a ∈ d'.addrs) ∧ (∀ a ∈ d.addrs, a ∈ d'.addrs) ∧ (∀ a ∈ d'.addrs, a ∈ d.addrs ∨ a ∈ p.addrs) ∧ p.At H3 ∧ ((∃ y ∈ N, nameB y = true) → p.named N → d.named N → d'.named N) := fun i k nk inN hrow htab => by
    refine ⟨Dc.put b i k p d, Dc.put_val .., Dc.put_size d hb D.nd, ⟨sm, Dc.put_at hp3 hrow htab d fr D.nd at2, Dc.put_ok pk nk d D.ok, Dc.put_nodup pn d D.nd dj, fun a ha => ?_, fun a ha => ?_⟩, fun a ha => (Dc.put_addrs d a).2.2 hb ha, fun a ha => (Dc.put_addrs d a).2.1 ha, fun a ha => ((Dc.put_addrs d a).1 ha).imp id fun z => z.2, hp3, fun hN n1 n2 => Dc.put_named n1 (inN hN) d n2⟩
    · by_cases hab : a = b
      · subst hab
        exact own3
      · rcases (Dc.put_addrs d a).1 ha with h | h
        · exact frz_up (Dc.there at2 h) ((D.up s).own a h) (fun o => c a o hab)
        · exact frz_up (Dc.there hp h.2) (po a h.2) (fun o => c a o hab)
    · rcases (Dc.put_addrs d a).1 ha with h | h
      · exact D.new a h
      · exact D.same.free (new a h.2)
  have rx : ∀ u, Rd H2 b u → H2 b = some u := fun u r => r.exact ((D.up s).own b hb)
  rcases la with ⟨vs, i, e1, e2⟩ | ⟨kv, k, e1, nk, ⟨nb, nN⟩, e2⟩
  · obtain ⟨k0, hk0, inN⟩ : ∃ k0 : Str, nameB k0 = true ∧ ((∃ y ∈ N, nameB y = true) → k0 ∈ N) := by
      by_cases h : ∃ y ∈ N, nameB y = true
      · obtain ⟨y, h1, h2⟩ := h
        exact ⟨y, h2, fun _ => h1⟩
      · exact ⟨"a", by decide +kernel, fun z => absurd z h⟩
    refine go i k0 hk0 inN (fun vs' e => ?_) (fun kv e => ?_)
    · rw [rx _ e] at e1; cases e1; exact e2
    · rw [rx _ e] at e1; cases e1
  · refine go 0 k nb (fun _ => nN) (fun vs' e => ?_) (fun kv' e => ?_)
    · rw [rx _ e] at e1; cases e1
    · rw [rx _ e] at e1; cases e1; exact ⟨nk, e2⟩
theorem DocInv.laid {N : List Str} {H H1 H2 H3 : Hp} {d p : Dc} {b L : Addr} {ts : List Addr} (D : DocInv H H1 d L ts) (s : Same H1 H2) (hp : p.At H2) (bp : p.Bare) (po : ∀ a ∈ p.addrs, ∀ o u, H2 a ≠ some (.frz o u)) (new : ∀ a ∈ p.addrs, H1 a = none) (hb : b ∈ d.addrs) (c : Chg b H2 H3) (la : LaidAt N b p.val H2 H3) :
    ∃ d' : Dc, d'.val = d.val ∧ d'.size = d.size + 1 ∧ DocInv H H3 d' L ts ∧ (∀ a ∈ p.addrs, a ∈ d'.addrs) ∧ p.At H3 ∧ ((∃ y ∈ N, nameB y = true) → d.named N → d'.named N) := by
  obtain ⟨d', e1, e2, m, i1, i2, i3, at3, nm⟩ := D.made.laid s hp bp.ok bp.nodup po new hb c la
  rw [bp.size] at e2
  have D2 := D.up s
  refine ⟨d', e1, e2, ⟨m, D.nL, ?_, ?_, fun t ht => ?_⟩, i1, at3, fun hN n => nm hN bp.named n⟩
  · exact c _ _ (fun z => D.out (by rw [z]; exact hb)) D2.eL
  · intro h
    rcases i3 L h with h | h
    · exact D.out h
    · have := new L h
      rw [D.eL] at this
      cases this
  · obtain ⟨b', k, e, hb'⟩ := D2.hold t ht
    refine ⟨b', k, c _ _ ?_ e, i2 b' hb'⟩
    rcases la with ⟨vs, i, z, _⟩ | ⟨kv, k', z, _⟩
    · exact ne_of e z (by intro z; cases z)
    · exact ne_of e z (by intro z; cases z)
namespace Dc
mutual
def slim : Dc → Prop
  | leaf _ => True
  | row _ xs => slimL xs
  | tab _ _ xs => xs.length < 64 ∧ slimL xs
def slimL : List Dc → Prop
  | [] => True
  | x :: r => slim x ∧ slimL r
end
theorem slimL_mem : ∀ {xs : List Dc}, slimL xs → ∀ x ∈ xs, slim x
  | [], _, x, hx => nomatch hx
  | y :: r, h, x, hx => by
    simp only [slimL] at h
    rcases List.mem_cons.mp hx with rfl | hx
    · exact h.1
    · exact slimL_mem h.2 x hx
mutual
theorem slim_of : ∀ d : Dc, d.size < 64 → d.slim
  | leaf _, _ => trivial
  | row a xs, h => by
    simp only [size] at h
    simp only [slim]
    exact slimL_of xs (by omega)
  | tab a ks xs, h => by
    simp only [size] at h
    simp only [slim]
    have := lenL xs
    exact ⟨by omega, slimL_of xs (by omega)⟩
theorem slimL_of : ∀ xs : List Dc, sizeL xs < 64 → slimL xs
  | [], _ => trivial
  | x :: r, h => by
    simp only [sizeL] at h
    simp only [slimL]
    exact ⟨slim_of x (by omega), slimL_of r (by omega)⟩
end
def szAt (ks : List Str) (xs : List Dc) (k : Str) : Nat := (((ks.zip xs).lookup k).map size).getD 0
theorem szAt_sum : ∀ {ks : List Str} {xs : List Dc}, ks.length = xs.length → ks.Nodup → (ks.map (szAt ks xs)).sum = sizeL xs
  | [], xs, h, _ => by
    cases xs with
    | nil => rfl
    | cons x r => simp at h
  | k :: ks, [], h, _ => by simp at h
  | k :: ks, x :: xs, h, n => by
    obtain ⟨n1, n2⟩ := List.nodup_cons.mp n
    have e1 : szAt (k :: ks) (x :: xs) k = x.size := by simp [szAt]
    have e2 : ks.map (szAt (k :: ks) (x :: xs)) = ks.map (szAt ks xs) := List.map_congr_left fun y hy => by
      have ne : y ≠ k := fun z => n1 (z ▸ hy)
      have : (y == k) = false := by simpa using ne
      simp [szAt, List.zip_cons_cons, List.lookup_cons, this]
    rw [List.map_cons, List.sum_cons, e1, e2, szAt_sum (by simpa using h) n2]
    simp only [sizeL]
theorem szAt_perm {ks ss : List Str} {xs : List Dc} (h : ks.length = xs.length) (n : ks.Nodup) (p : ss.Perm ks) : (ss.map (szAt ks xs)).sum = sizeL xs := by
  rw [(p.map _).sum_nat, szAt_sum h n]
theorem sizeL_take_succ {xs : List Dc} {i : Nat} {x : Dc} (h : xs[i]? = some x) : sizeL (xs.take (i + 1)) = sizeL (xs.take i) + x.size := by
  rw [List.take_add_one, h, sizeL_append]
  simp [sizeL]
end Dc
end L2

set_option Elab.async false
set_option linter.all false
set_option maxRecDepth 100000
set_option maxHeartbeats 4000000
namespace L2
open PySem PySem.Spec PyProof.Rows
section
variable {X : Cx} {pins : List (Addr × Obj)} {σ : St} {H : Hp} {s : Shared} {a : Addr} {kvs : List (Key × V)}
theorem Inv.freeze (I : Inv X pins σ H s) (e : H a = some (.dK kvs)) : ∃ o, s.heap.get? a = some o ∧ Inv X pins σ (upd H a (.frz o (.dK kvs))) s := by
  have ok := (show ObjOk X.prog X.w H s.heap a (.dK kvs) from I.hok a _ e)
  obtain ⟨z, hm, vs, kv, o, es, ep, ho, r⟩ := id ok
  refine ⟨o, ho, ?_⟩
  have hne : ∀ b u, H b = some u → u ≠ .dK kvs → b ≠ a := fun b u q n w => by
    subst w
    rw [e] at q
    exact n (Option.some.inj q).symm
  have un : Un X.fs [] H (upd H a (.frz o (.dK kvs))) s.heap s.heap :=
    ⟨fun b ob q _ _ _ => q, fun b ob q _ _ _ => ⟨ob.slots, q⟩, fun b ob q n _ => by rw [upd_ne (fun w => by subst w; rw [e] at n; cases n)]; exact n, fun b ob q _ => ⟨ob, q⟩,
      fun b xs q => by rw [upd_ne (hne b _ q (by intro z; cases z))]; exact q, fun b ob u q => by rw [upd_ne (hne b _ q (by intro z; cases z))]; exact q, fun b ps q => ⟨#[], by rw [upd_ne (hne b _ q (by intro z; cases z)), q]; simp⟩⟩
  have hok : HOk X.prog X.w (upd H a (.frz o (.dK kvs))) s.heap := I.hok.write (by rw [e]; trivial) (.inl rfl) (fun b u _ q => q) ⟨o, ho⟩ ⟨ho, ok⟩
  exact I.un (h' := s.heap) (t' := s.toks) un hok
theorem Inv.thaw {o : Obj} (I : Inv X pins σ H s) (e : H a = some (.frz o (.dK kvs))) (nf : ∀ o u, X.H₀ a ≠ some (.frz o u)) : Inv X pins σ (upd H a (.dK kvs)) s := by
  have ok := (show ObjOk X.prog X.w H s.heap a (.frz o (.dK kvs)) from I.hok a _ e)
  have hne : ∀ b u, H b = some u → u ≠ .frz o (.dK kvs) → b ≠ a := fun b u q n w => by
    subst w
    rw [e] at q
    exact n (Option.some.inj q).symm
  have hnn : ∀ b, H b = none → b ≠ a := fun b n w => by subst w; rw [e] at n; cases n
  have B := I.base
  refine ⟨I.ok, I.os, I.bare, ⟨B.keep, B.slot, fun b ob q n hx => by rw [upd_ne (hnn b (B.free b ob q n hx))]; exact B.free b ob q n hx, B.there, fun b xs q => by rw [upd_ne (hne b _ (B.tups b xs q) (by intro z; cases z))]; exact B.tups b xs q,
    fun b ob u q => by rw [upd_ne (fun w => nf ob u (by rw [← w]; exact q))]; exact B.frzs b ob u q, fun b ps q => ?_⟩, I.loc, I.cell, by rw [upd_ne (hnn _ I.free)]; exact I.free, fun x c q => by rw [upd_ne (hnn _ (I.freeC x c q))]; exact I.freeC x c q,
    fun p hp => let ⟨p1, p2, p3⟩ := I.pin p hp; ⟨p1, by rw [upd_ne (hnn _ p2)]; exact p2, p3⟩, fun b u q => ?_, I.len⟩
  · obtain ⟨more, e'⟩ := B.tbls b ps q
    exact ⟨more, by rw [upd_ne (hne b _ e' (by intro z; cases z))]; exact e'⟩
  · by_cases hb : b = a
    · subst hb
      rw [upd_same] at q
      cases q
      exact ok.2
    · rw [upd_ne hb] at q
      exact (I.hok b u q).stay (fun c v _ r => r) (fun c r => by rw [upd_ne (hne c _ r (by intro z; cases z))]; exact r) fun c xs r => by rw [upd_ne (hne c _ r (by intro z; cases z))]; exact r
theorem Inv.nf (I : Inv X pins σ H s) (e : H a = some (.dK kvs)) : ∀ o u, X.H₀ a ≠ some (.frz o u) := fun o u q => by
  have := I.base.frzs a o u q
  rw [e] at this
  cases this
end
def Thaw (a : Addr) (o : Obj) (kvs : List (Key × V)) (k : Hp → Prop) : Hp → Prop := fun H => H a = some (.frz o (.dK kvs)) ∧ k (upd H a (.dK kvs))
inductive tFrzEI (t : TE) (σ : St) (H : Hp) (Q : VK) : Prop
  | mk (a : _) (kvs : _) (x0 : H a = some (.dK kvs)) (x1 : ∀ o, t σ (upd H a (.frz o (.dK kvs))) fun v => Thaw a o kvs (Q v)) : tFrzEI t σ H Q
def tFrzE (t : TE) : TE := fun σ H Q => tFrzEI t σ H Q
inductive tFrzSI (t : TS) (D : Ends) (σ : St) (H : Hp) : Prop
  | mk (a : _) (kvs : _) (x0 : H a = some (.dK kvs)) (x1 : ∀ o, t ⟨fun σ => Thaw a o kvs (D.nx σ), fun v => Thaw a o kvs (D.rt v), fun σ => Thaw a o kvs (D.bk σ), fun σ => Thaw a o kvs (D.ct σ)⟩ σ (upd H a (.frz o (.dK kvs)))) : tFrzSI t D σ H
def tFrzS (t : TS) : TS := fun D σ H => tFrzSI t D σ H
section
variable {X : Cx}
theorem pe_frz {e : Expr} {t : TE} (h : PE X e t) : PE X e (tFrzE t) := by
  rintro pins s σ H Q I ⟨a, kvs, ea, hq⟩
  obtain ⟨o, ho, I'⟩ := I.freeze ea
  exact thn (h pins s σ _ _ I' (hq o)) fun u s1 ⟨v, H1, I1, r1, e1, q1⟩ => ⟨v, _, I1.thaw e1 (I.nf ea), r1, q1⟩
theorem ps_frz {st : Stmt} {t : TS} (h : PS X st t) : PS X st (tFrzS t) := by
  rintro pins s σ H D I ⟨a, kvs, ea, hq⟩
  obtain ⟨o, ho, I'⟩ := I.freeze ea
  refine thn (h pins s σ _ _ I' (hq o)) fun f s1 h1 => ?_
  cases f with
  | next => obtain ⟨σ1, H1, I1, e1, q1⟩ := h1; exact ⟨σ1, _, I1.thaw e1 (I.nf ea), q1⟩
  | brk => obtain ⟨σ1, H1, I1, e1, q1⟩ := h1; exact ⟨σ1, _, I1.thaw e1 (I.nf ea), q1⟩
  | cont => obtain ⟨σ1, H1, I1, e1, q1⟩ := h1; exact ⟨σ1, _, I1.thaw e1 (I.nf ea), q1⟩
  | ret u => obtain ⟨v, σ1, H1, I1, r1, e1, q1⟩ := h1; exact ⟨v, σ1, _, I1.thaw e1 (I.nf ea), r1, q1⟩
theorem pe_alt {e : Expr} {t u : TE} (h : PE X e t) (h' : PE X e u) : PE X e (fun σ H Q => t σ H Q ∨ u σ H Q) := by
  rintro pins s σ H Q I (q | q)
  · exact h pins s σ H Q I q
  · exact h' pins s σ H Q I q
end
def Itd (a : Addr) (o : Obj) (kvs : List (Key × V)) : It :=
  ⟨fun i H => H a = some (.frz o (.dK kvs)) ∧ i < kvs.length, fun i H x H' => H' = H ∧ ∃ k v, kvs[i]? = some (k, v) ∧ x = kV k, fun i H => H a = some (.frz o (.dK kvs)) ∧ i = kvs.length⟩
def iDict (tl : TE) : TI := fun σ H R => tl σ H fun x H1 => ∃ a o kvs, x = .ref a ∧ H1 a = some (.frz o (.dK kvs)) ∧ R (Itd a o kvs) H1
theorem rel_key {P : Program} {w : World} {k : Key} {u : Value} (h : (mixKind P w).is k u = true) : RelV (kV k) u := by
  rcases keyIs_shape (k := k) (v := u) h with ⟨i, t, rfl, rfl⟩ | ⟨x, t, rfl, rfl⟩
  · exact ⟨t, rfl⟩
  · exact ⟨t, rfl⟩
theorem turn_dict {P : Program} {w : World} {K : PySem.W.Frag} {tg : Expr} {a it : Addr} {o : Obj} {kvs : List (Key × V)} {vs : List (Key × Value)} {ep : Nat} (hne : a ≠ it) (rel : KV kvs vs) (hD : ∀ h : Heap, h.get? a = some o → h.DictAt (mixKind P w) a vs ep) :
    Turn P w K tg (Itd a o kvs) [it] it (fun i h => h.IsKeyIter it a i vs.length ep) where
  mem := by simp
  obj := fun i h st b hb => by
    have e : b = it := by simpa using hb
    subst e
    obtain ⟨ob, h1, _, h3⟩ := st
    exact ⟨ob, h1, fun v z => by rw [h3] at z; cases z⟩
  keep := fun i h h' st k => st.at fun ob e => k it (by simp) ob e
  item := fun X hp hw _ hc i pins s σ H E I hf st go => by
    subst hp hw
    have f := hf it (by simp)
    obtain ⟨ga, gi⟩ := go
    have hda := hD s.heap (show ObjOk X.prog X.w H s.heap a (.frz o (.dK kvs)) from I.hok a _ ga).1
    refine (Walks.dictKeys (knd := mixKind X.prog X.w) (I.ok.hd hc) it a hne vs ep).item i s _ E (by rw [← rel.length]; exact gi) ⟨st, hda⟩ fun v h' tk hP st' kept => ?_
    obtain ⟨k, x, hkx, hk⟩ := hP
    obtain ⟨ob, h1, h2, h3⟩ := st'.1
    have hkv : ∃ y, kvs[i]? = some (k, y) := by
      have e := congrArg (fun l => l[i]?) (KV.keys rel)
      simp only [List.getElem?_map, hkx, List.getElem?_eq_getElem gi] at e
      have e : kvs[i].1 = k := by simpa using e
      exact ⟨kvs[i].2, by rw [List.getElem?_eq_getElem gi, ← e]⟩
    obtain ⟨y, hy⟩ := hkv
    refine ⟨v, rfl, go_of (o := ob) h1 h2 h3 (by decide) ⟨kV k, H, I.turned (fun b ob' hb e => kept b ob' (by simp [hb]) e) f.1 f.2.1 f.2.2.2.1 f.2.2.2.2.1 f.2.2.2.2.2, rel_key hk, ⟨rfl, k, y, hy, rfl⟩, st'.1, fun b hb => ?_⟩⟩
    have e : b = it := by simpa using hb
    subst e
    exact f.1
  done := fun X hp hw _ hc i pins s σ H E I hf st stop => by
    subst hp hw
    have f := hf it (by simp)
    obtain ⟨ga, gi⟩ := stop
    have gi : i = vs.length := by rw [gi]; exact rel.length
    subst gi
    have hda := hD s.heap (show ObjOk X.prog X.w H s.heap a (.frz o (.dK kvs)) from I.hok a _ ga).1
    refine (Walks.dictKeys (knd := mixKind X.prog X.w) (I.ok.hd hc) it a hne vs ep).done s _ E ⟨st, hda⟩ fun h' tk kept => ?_
    exact ⟨rfl, I.turned (fun b ob hb e => kept b ob (by simp [hb]) e) f.1 f.2.1 f.2.2.2.1 f.2.2.2.2.1 f.2.2.2.2.2⟩
  self := fun A i s Q E st hQ => wpAny_pyIter_keyiter st hQ
section
variable {X : Cx} {tg : Expr}
theorem pi_dict {l : Expr} {tl : TE} (hl : PE X l tl) : PI X tg l (iDict tl) := by
  intro pins s σ H R I h
  refine thn (hl pins s σ H _ I h) fun v s1 zq => zq.elim fun x H1 I1 r1 q1 => ?_
  obtain ⟨a, o, kvs, rfl, ha, q⟩ := q1
  cases r1
  have ok := (show ObjOk X.prog X.w H1 s1.heap a (.frz o (.dK kvs)) from I1.hok a _ ha)
  obtain ⟨ho, z, hm, vs, rel, dd⟩ := ok
  obtain ⟨ep, hat⟩ := dd.dictAt
  obtain ⟨o', es, ho', r'⟩ := id hat
  rw [ho] at ho'
  cases ho'
  have hlt : a < s1.heap.objs.size := Heap.lt_size ho
  refine wpAny_pyIter_dict hm hat ⟨s1.heap.objs.size, [s1.heap.objs.size], _, Itd a o kvs, H1, rfl, I1.kept (t' := s1.toks) fun b ob e => Heap.get?_push_of_some _ e,
    turn_dict (Nat.ne_of_lt hlt) rel (fun h e => ⟨o, es, e, r'⟩), ⟨_, Heap.get?_push_size _ rfl, rfl, rfl⟩, fun b hb => ?_, q⟩
  have e : b = s1.heap.objs.size := by simpa using hb
  subst e
  exact I1.fpOk (Nat.le_refl _) I1.fresh
end
theorem for_dict {a : Addr} {o : Obj} {kvs : List (Key × V)} {g : TG} {tb : TS} {D : Ends} {σ : St} {H : Hp} (Pv : Nat → St → Hp → Prop) (h0 : Pv 0 σ H) (hl : ∀ i σ H, i ≤ kvs.length → Pv i σ H → H a = some (.frz o (.dK kvs)))
    (hs : ∀ i k v σ H, kvs[i]? = some (k, v) → Pv i σ H → g (kV k) σ H fun σ2 H2 => tb { D with nx := Pv (i + 1), ct := Pv (i + 1), bk := D.nx } σ2 H2) (hd : ∀ σ H, Pv kvs.length σ H → D.nx σ H) :
    ∃ W : Nat → Nat → St → Hp → Prop, (∃ m, W 0 m σ H) ∧ ∀ i m σ H, W i m σ H →
      ((Itd a o kvs).stop i H ∧ D.nx σ H) ∨ ((Itd a o kvs).go i H ∧ ∃ N : St → Hp → Prop, (∀ σ' H', N σ' H' → ∃ m', m' < m ∧ W (i + 1) m' σ' H') ∧ ∀ x H', (Itd a o kvs).yld i H x H' → g x σ H' fun σ2 H2 => tb { D with nx := N, ct := N, bk := D.nx } σ2 H2) := by
  refine ⟨fun i m σ H => m = kvs.length - i ∧ i ≤ kvs.length ∧ Pv i σ H, ⟨kvs.length, by simp, Nat.zero_le _, h0⟩, ?_⟩
  rintro i m σ H ⟨rfl, hi, p⟩
  have q := hl i σ H hi p
  by_cases hlt : i < kvs.length
  · refine .inr ⟨⟨q, hlt⟩, Pv (i + 1), fun σ' H' p' => ⟨kvs.length - (i + 1), by omega, rfl, hlt, p'⟩, fun x H' y => ?_⟩
    obtain ⟨e, k, v, hkv, rfl⟩ := y
    subst e
    exact hs i k v σ _ hkv p
  · have e : i = kvs.length := by omega
    subst e
    exact .inl ⟨⟨q, rfl⟩, hd σ H p⟩
def SameR (H H' : Hp) : Prop := ∀ b u, Rd H b u → Rd H' b u
theorem Same.r {H H' : Hp} (s : Same H H') : SameR H H' := fun b u r => r.up fun o => s b o
theorem SameR.trans {H H1 H2 : Hp} (s : SameR H H1) (t : SameR H1 H2) : SameR H H2 := fun b u r => t b u (s b u r)
theorem SameR.frz {H : Hp} {a : Addr} {o : Obj} {kvs : List (Key × V)} (e : H a = some (.dK kvs)) : SameR H (upd H a (.frz o (.dK kvs))) := fun b u r => by
  by_cases hb : b = a
  · subst hb
    rcases r with r | ⟨o', r⟩
    · rw [e] at r; cases r; exact .inr ⟨o, upd_same⟩
    · rw [e] at r; cases r
  · exact r.up fun o' q => by rw [upd_ne hb]; exact q
theorem Dc.at_sameR {H H' : Hp} {d : Dc} (s : SameR H H') (h : d.At H) : d.At H' := Dc.at_read d (fun a _ u r => s a u r) h
theorem Same.thaw {H Hi : Hp} {a : Addr} {o : Obj} {kvs : List (Key × V)} (e : H a = some (.dK kvs)) (s : Same (upd H a (.frz o (.dK kvs))) Hi) : Hi a = some (.frz o (.dK kvs)) ∧ Same H (upd Hi a (.dK kvs)) := by
  refine ⟨s a _ upd_same, fun b u q => ?_⟩
  by_cases hb : b = a
  · subst hb
    rw [upd_same, ← e, q]
  · rw [upd_ne hb]
    exact s b u (by rw [upd_ne hb]; exact q)
end L2

set_option Elab.async false
set_option linter.all false
set_option maxRecDepth 100000
set_option maxHeartbeats 4000000
namespace PySem
open PyProof.Rows PySem.F PySem.Spec
theorem list_keys_none : typeLookup (.type "list") "keys" = pure none := by rw [typeLookup_type, builtinLookup_eq_fast]; kernel_rfl
theorem keys_miss_list {prog : Program} {w : World} {A : Around} {E : Value → Shared → Prop} {s : Shared} {a : Addr} {o : Obj} {xs : Array Value} {k : Nat} {Q : Option Value → Shared → Prop}
    (hx : s.heap.get? a = some o) (hc : o.cls = .type "list") (hdat : o.data = .seq xs k) (hd : o.dict = none) (hA : A.handled = none)
    (h : ∀ h' tk e, Heap.NewExcOf s.heap h' e "AttributeError" → Q none { s with heap := h', toks := tk }) :
    wpAny (model prog w) A (getAttr? (.ref a) "keys") Q E s := by
  obtain ⟨c, dct, dat, sl⟩ := o
  simp only at hc hdat hd
  subst hc hdat hd
  obtain ⟨hp, g, d, tk, os⟩ := s
  have hT : ∀ tk', (⟨hp, g, d, tk', os⟩ : Shared).TypeIs (.ref a) "list" := fun _ => ⟨_, hx, rfl⟩
  have f1 := sub_AttributeError
  have f3 := F.slot_list_getattribute.lookup
  have f4 := F.slot_list_getattribute.bind (.ref a)
  have f5 := am_list_getattr_none
  unfold getAttr? getAttrBy? getAttrBy
  repeat (any_goals (first | assumption | exact hT _ | ((with_reducible show wpAny _ _ (call (Value.builtin "list.__getattribute__") _ _) _ _ _); refine call_meets F.slot_list_getattribute (hT _) am_entry_list_getattribute (F.args_list_getattribute_2 _ _) (meets_getattribute_miss_list a xs k sl "keys" _ list_keys_none (by decide +kernel) (by decide +kernel)) ⟨hx, hA, fun h' tk' e hx' => ?_⟩) | wp_step))
  obtain ⟨t', u', he⟩ := hx'.there
  show wpAny _ _ (getattributeRaised _ _ _ _ _ _ _) _ _ _
  unfold getattributeRaised
  repeat (any_goals (first | assumption | wp_step))
  exact h _ _ _ hx'.of
theorem entry_dict_loop : entryFor table "dict.update.loop" = some Builtin.«dict.update.loop» := entryFor_of_tree (by kernel_rfl)
theorem plain_dict_loop : plainId "dict.update.loop" = true := by decide +kernel
section
variable {prog : Program} {w : World} {K : Type} [DecidableEq K] {knd : KeyKind prog w K} {A : Around} {R : Result → Shared → Prop}
theorem dict_loop {I l d : Addr} {items : Array Value} {more : List (K × Value)} (hh : A.handled = none) (hne : l ≠ I) (hdI : d ≠ I) (hdl : d ≠ l) (hlen : items.size = more.length) (hsz : more.length ≤ 100000) :
    ∀ (k i : Nat) (s : Shared), more.length - i = k → i ≤ more.length → s.heap.IsListIter I l i → s.heap.IsList l items → s.heap.DictOf knd d (merged [] (more.take i)) →
      (∀ (j : Nat) k' v', more[j]? = some (k', v') → ∃ t key, items[j]? = some (.ref t) ∧ t ≠ d ∧ t ≠ I ∧ IsTup s.heap t #[key, v'] ∧ knd.is k' key = true) →
      (∀ h' tk, h'.DictOf knd d (merged [] more) → (∀ b o, b ≠ d → b ≠ I → s.heap.get? b = some o → h'.get? b = some o) → R (.ok (.ret .none)) { s with heap := h', toks := tk }) →
      codeAny (model prog w) A (.builtin "dict.update.loop" ⟨[.ref d, .ref I, rawInt (i : Int), .none], []⟩) R s := by
  have W := Walks.list (prog := prog) (w := w) (A := A.in1) hh I l hne items
  intro k
  induction k with
  | zero =>
    intro i s hk hi hit hl hd hp hR
    have hin : i = more.length := by omega
    subst hin
    refine codeAny_builtin entry_dict_loop ?_
    rw [Around.under_plainId plain_dict_loop _]
    show wpAny _ A.in1 (pyNext (.ref I) >>= _) _ _ s
    refine wpAny_bind (W.done s _ _ (by rw [hlen]; exact ⟨hit, hl⟩) fun h' tk kept => ?_)
    rw [List.take_length] at hd
    obtain ⟨o, es, ep, ho, r⟩ := hd
    show wpAny _ A.in1 (Builtin.Dict.addKeywords d [] >>= _) _ _ _
    exact wpAny_bind (wpAny_pure (wpAny_pure (hR h' tk ⟨o, es, ep, kept _ _ (by simp [hdI]) ho, r⟩ fun b o _ hb e => kept b o (by simp [hb]) e)))
  | succ k ih =>
    intro i s hk hi hit hl hd hp hR
    have hlt : i < more.length := by omega
    obtain ⟨⟨k', v'⟩, hm⟩ : ∃ p, more[i]? = some p := ⟨_, List.getElem?_eq_getElem hlt⟩
    obtain ⟨t, key, ht, td, tI, tup, hkey⟩ := hp i k' v' hm
    refine codeAny_builtin entry_dict_loop ?_
    rw [Around.under_plainId plain_dict_loop _]
    show wpAny _ A.in1 (pyNext (.ref I) >>= _) _ _ s
    refine wpAny_bind (W.item i s _ _ (by rw [hlen]; exact hlt) ⟨hit, hl⟩ fun v h' tk hv st' kept => ?_)
    rw [ht] at hv
    cases hv
    obtain ⟨ot, hot, hct, nt, hdt⟩ := tup
    have hot' : h'.get? t = some ot := kept _ _ (by simp [tI]) hot
    have hT : ({ s with heap := h', toks := tk } : Shared).TypeIs (.ref t) "tuple" := ⟨_, hot', hct⟩
    obtain ⟨ct, dt, dat, slt⟩ := ot
    simp only at hct hdt
    subst hct hdt
    obtain ⟨o, es, ep, ho, r⟩ := id hd
    have hd' : h'.DictOf knd d (merged [] (more.take i)) := ⟨o, es, ep, kept _ _ (by simp [hdI]) ho, r⟩
    have hml : (merged [] (more.take i)).length ≤ sizeLine := by
      have := merged_length_le ([] : List (K × Value)) (more.take i)
      rw [List.length_take, List.length_nil] at this
      have e : sizeLine = 16777216 := sizeLine_eq
      omega
    show wpAny _ A.in1 (holding [Value.ref t] _ >>= _) _ _ _
    refine wpAny_bind (wpAny_holding (wpAny_bind (wpAny_tryCatch ?_)))
    unfold Builtin.Dict.pairItems
    refine wpAny_bind (wpAny_typeOf hT ?_)
    rw [if_pos (by decide)]
    unfold seqItems?
    refine wpAny_bind ?_
    refine wpAny_bind (wpAny_load hot' ?_)
    refine wpAny_pure (wpAny_pure ?_)
    show wpAny _ A.in1 (holding [key, v'] (dictSet d key v')) _ _ _
    refine wpAny_holding ?_
    unfold dictSet
    try with_reducible refine wpAny_holding ?_
    refine wpAny_bind (knd.pyHash hkey ?_)
    refine wpAny_dictSetHashed_pairs (hsz := hml) hkey hd' fun h2 hd2 hs2 => ?_
    have e1 : stored (merged [] (more.take i)) k' v' = merged [] (more.take (i + 1)) := (merged_take_succ [] more i (k', v') hm).symm
    rw [e1] at hd2
    have kp : ∀ b o, b ≠ d → b ≠ I → s.heap.get? b = some o → h2.get? b = some o := fun b o h1 h3 e => by
      rw [hs2.2 b h1]
      exact kept b o (by simp [h3]) e
    have ic : ((i : Int) + 1) = ((i + 1 : Nat) : Int) := by simp
    refine wpAny_pure ⟨plainId_quiet plain_dict_loop _, ?_⟩
    rw [ic]
    refine ih (i + 1) _ (by omega) hlt (st'.1.at fun o e => by rw [hs2.2 I (Ne.symm hdI)]; exact e) (st'.2.at fun o e => by rw [hs2.2 l (Ne.symm hdl)]; exact e) hd2 (fun j k2 v2 hj => ?_) (fun h3 tk3 hd3 kp3 => hR h3 tk3 hd3 fun b o h1 h4 e => kp3 b o h1 h4 (kp b o h1 h4 e))
    obtain ⟨t2, key2, a1, a2, a3, ⟨ot2, b1, b2⟩, a5⟩ := hp j k2 v2 hj
    exact ⟨t2, key2, a1, a2, a3, ⟨ot2, kp _ _ a2 a3 b1, b2⟩, a5⟩
end
end PySem
namespace L2
open PySem PySem.Spec PyProof.Rows
section
variable {X : Cx}
inductive rDictPI (K : PySem.W.Frag) (xs : List V) (H : Hp) (Q : VK) : Prop
  | mk (l : Addr) (ts : List Addr) (kvs : List (Key × V)) (x0 : xs = [.ref l]) (x1 : SqL K H l (ts.map V.ref)) (x2 : ts.length = kvs.length) (x3 : (∀ (j : Nat) k v, kvs[j]? = some (k, v) → ∃ t, ts[j]? = some t ∧ H t = some (.tup [kV k, v]))) (x4 : kvs.length ≤ 1000) (x5 : ∀ p, H p = none → Q (.ref p) (upd H p (.dK (mergeK [] kvs)))) : rDictPI K xs H Q
def rDictP (K : PySem.W.Frag) : List V → Hp → VK → Prop := fun xs H Q => rDictPI K xs H Q
theorem call_dict_pairs (hc : X.calm = true) : CallR X (.type "dict") (rDictP X.K) := by
  intro pins s σ H xs us Q I r h
  obtain ⟨l, ts, kvs, rfl, hl, hlen, hp, hz, q⟩ := h
  obtain ⟨u, rfl, ru⟩ := vals1 r
  cases ru
  obtain ⟨its, rv, pl, _⟩ := I.list hl
  obtain ⟨ol, nl, hol, hcl, hdn, hdl⟩ := id pl
  have hin : X.A.in1.handled = none := I.ok.hd hc
  refine callType_codes (Q₁ := fun obj s₁ => obj = .ref s.heap.objs.size ∧ s₁ = { s with heap := s.heap.push { cls := .type "dict", data := .dict #[] } }) F.kt_called_dict (F.kt_typeCall_dict_1 _) F.entry_dict_init (kt_code_dict_new _ ⟨rfl, rfl⟩) ?_
  rintro obj s₁ ⟨rfl, rfl⟩
  have hnew : (s.heap.push { cls := .type "dict", data := .dict #[] }).DictOf (mixKind X.prog X.w) s.heap.objs.size [] := Heap.DictOf.new s.heap
  refine ⟨hnew.typeIs, F.args_dict_init_2 _ _, ?_⟩
  unfold Builtin.«dict.__init__»
  refine wpAny_bind ?_
  unfold Builtin.Dict.selfAndRest
  refine wpAny_bind (wpAny_notOrdered_dict hnew.typeIs ?_)
  show wpAny _ _ (pure (s.heap.objs.size, [Value.ref l])) _ _ _
  refine wpAny_pure ?_
  show wpAny _ _ (Builtin.Dict.updateFrom "dict.__init__" s.heap.objs.size (.ref l) [] .none) _ _ _
  unfold Builtin.Dict.updateFrom
  have hol' : (s.heap.push { cls := .type "dict", data := .dict #[] }).get? l = some ol := Heap.get?_push_of_some _ hol
  have hTl : ({ s with heap := s.heap.push { cls := .type "dict", data := .dict #[] } } : Shared).TypeIs (.ref l) "list" := ⟨_, hol', hcl⟩
  refine wpAny_bind (wpAny_typeOf hTl ?_)
  rw [if_pos (by decide)]
  refine wpAny_bind (keys_miss_list hol' hcl hdl hdn hin fun h1 tk1 e1 ne1 => ?_)
  rw [if_pos (show (Option.isNone (none : Option Value)) = true from rfl)]
  have kp1 : ∀ b o, (s.heap.push { cls := .type "dict", data := .dict #[] }).get? b = some o → h1.get? b = some o := ne1.keeps
  have kp0 : ∀ b o, s.heap.get? b = some o → h1.get? b = some o := fun b o e => kp1 b o (Heap.get?_push_of_some _ e)
  have hl1 : h1.IsList l its.toArray := ⟨ol, kp1 _ _ hol', hcl, nl, hdl⟩
  refine wpAny_bind (wpAny_rule ?_)
  refine wpAny_bind (wpAny_pyIter_list hl1 ?_)
  refine wpAny_pure ⟨plainId_quiet plain_dict_loop _, ?_⟩
  obtain ⟨od, es, ep, hod, rd⟩ := id hnew
  have hlt : s.heap.objs.size < h1.objs.size := Heap.lt_size (kp1 _ _ hod)
  have hll : l < s.heap.objs.size := Heap.lt_size hol
  have conc : ∀ kvs : List (Key × V), (∀ p ∈ kvs, ∃ (t : Addr), H t = some (.tup [kV p.1, p.2])) → True := fun _ _ => trivial
  have tupAt : ∀ (t : Addr) k v, H t = some (.tup [kV k, v]) → ∃ key v', IsTup s.heap t #[key, v'] ∧ (mixKind X.prog X.w).is k key = true ∧ RelV v v' := fun t k v e => by
    obtain ⟨z, r2, tp, _⟩ := I.tuple (SqT.of e)
    cases r2 with
    | cons ra rr =>
      cases rr with
      | cons rb rr =>
        cases rr
        exact ⟨_, _, tp, kV_is ra, rb⟩
  obtain ⟨more, hmore⟩ : ∃ more : List (Key × Value), KV kvs more ∧ ∀ (j : Nat) k' v', more[j]? = some (k', v') → ∃ t key, ts[j]? = some t ∧ IsTup s.heap t #[key, v'] ∧ (mixKind X.prog X.w).is k' key = true := by
    have gen : ∀ (kvs : List (Key × V)) (ts : List Addr), (∀ (j : Nat) k v, kvs[j]? = some (k, v) → ∃ t, ts[j]? = some t ∧ H t = some (.tup [kV k, v])) →
        ∃ more : List (Key × Value), KV kvs more ∧ ∀ (j : Nat) k' v', more[j]? = some (k', v') → ∃ t key, ts[j]? = some t ∧ IsTup s.heap t #[key, v'] ∧ (mixKind X.prog X.w).is k' key = true := by
      intro kvs
      induction kvs with
      | nil => exact fun ts _ => ⟨[], .nil, fun j k' v' e => by simp at e⟩
      | cons p r ih =>
        intro ts h
        obtain ⟨k, v⟩ := p
        obtain ⟨t, e1, e2⟩ := h 0 k v rfl
        obtain ⟨key, v', a1, a2, a3⟩ := tupAt t k v e2
        obtain ⟨more, b1, b2⟩ := ih ts.tail (fun j k v e => by
          obtain ⟨t, c1, c2⟩ := h (j + 1) k v (by simpa using e)
          exact ⟨t, by rw [List.getElem?_tail]; exact c1, c2⟩)
        refine ⟨(k, v') :: more, .cons ⟨rfl, a3⟩ b1, fun j k' v'' e => ?_⟩
        cases j with
        | zero =>
          have e : (k, v') = (k', v'') := by simpa using e
          cases e
          exact ⟨t, key, e1, a1, a2⟩
        | succ j =>
          obtain ⟨t, key, c1, c2, c3⟩ := b2 j k' v'' (by simpa using e)
          exact ⟨t, key, by rw [List.getElem?_tail] at c1; exact c1, c2, c3⟩
    exact gen kvs ts hp
  obtain ⟨rel, hm⟩ := hmore
  have hitl : its.length = ts.length := by rw [← rv.length, List.length_map]
  have itAt : ∀ (j : Nat) t, ts[j]? = some t → its.toArray[j]? = some (.ref t) := fun j t e => by
    obtain ⟨u, h1, h2⟩ := rv.get (show (ts.map V.ref)[j]? = some (.ref t) by rw [List.getElem?_map, e]; rfl)
    cases h2
    simpa using h1
  show codeAny _ _ (.builtin "dict.update.loop" ⟨[.ref s.heap.objs.size, .ref h1.objs.size, rawInt ((0 : Nat) : Int), .none], []⟩) _ _
  refine dict_loop (knd := mixKind X.prog X.w) (l := l) (items := its.toArray) (more := more) hin (Nat.ne_of_lt (Nat.lt_trans hll hlt)) (Nat.ne_of_lt hlt) (Nat.ne_of_gt hll) (by rw [List.size_toArray, hitl, hlen]; exact rel.length) (by rw [← rel.length]; omega) more.length 0 _ (by simp) (Nat.zero_le _)
    ⟨_, Heap.get?_push_size _ rfl, rfl, rfl⟩ ⟨ol, Heap.get?_push_of_some _ (kp1 _ _ hol'), hcl, nl, hdl⟩ ⟨od, es, ep, Heap.get?_push_of_some _ (kp1 _ _ hod), rd⟩ (fun j k' v' e => ?_) (fun h2 tk2 hd2 kp2 => ⟨rfl, ?_⟩)
  · obtain ⟨t, key, c1, ⟨ot, c2, c2'⟩, c3⟩ := hm j k' v' e
    have : t < s.heap.objs.size := Heap.lt_size c2
    exact ⟨t, key, itAt j t c1, Nat.ne_of_lt this, Nat.ne_of_lt (Nat.lt_trans this hlt), ⟨ot, Heap.get?_push_of_some _ (kp0 _ _ c2), c2'⟩, c3⟩
  · have hz2 : (mergeK [] kvs).length ≤ sizeLine := by
      have := length_mergeK kvs []
      exact le_line (by simp at this; omega)
    refine ⟨.ref s.heap.objs.size, _, I.laid (t' := tk2) (fun b o e => ?_) (Nat.le_refl _) (dk_new hz2 (beq_eq_false_iff_ne.mpr (Ne.symm (Nat.ne_of_lt I.big))) (KV.merge rel .nil) hd2), rfl, q _ I.fresh⟩
    have := Heap.lt_size e
    exact kp2 b o (Nat.ne_of_lt this) (Nat.ne_of_lt (Nat.lt_trans this hlt)) (Heap.get?_push_of_some _ (kp0 _ _ e))
end
end L2

set_option Elab.async false
set_option linter.all false
set_option maxRecDepth 100000
set_option maxHeartbeats 4000000
namespace L2
open PySem PySem.Spec PyProof.Rows
theorem eqV_self {x : V} (h : flatV x = true) : eqV x x = true := by
  cases x <;> simp_all [flatV, eqV]
theorem eqTs_self {xs : List V} (h : ∀ z ∈ xs, flatV z = true) : eqTs xs xs = true := by
  unfold eqTs
  rw [Nat.min_self, Bool.and_eq_true]
  refine ⟨List.all_eq_true.mpr fun j hj => ?_, beq_self_eq_true _⟩
  have hj := List.mem_range.mp hj
  rw [List.getD_eq_getElem?_getD, List.getElem?_eq_getElem hj]
  exact eqV_self (h _ (List.getElem_mem hj))
section
variable {X : Cx}
theorem flat_eqAt {pins : List (Addr × Obj)} {σ : St} {H : Hp} {s : Shared} {A : Around} {xs ys : List V} {its its2 : List Value} (r1 : Vals xs its) (r2 : Vals ys its2) (fx : ∀ z ∈ xs, flatV z = true) (fy : ∀ z ∈ ys, flatV z = true)
    (j : Nat) (h1 : j < its.toArray.size) (h2 : j < its2.toArray.size) : SeqAt.EqAt A s its.toArray[j] its2.toArray[j] (eqV (xs.getD j .non) (ys.getD j .non)) := by
  have e1 : its.toArray.size = xs.length := by rw [List.size_toArray]; exact r1.length.symm
  have e2 : its2.toArray.size = ys.length := by rw [List.size_toArray]; exact r2.length.symm
  have h1' : j < xs.length := by rw [← e1]; exact h1
  have h2' : j < ys.length := by rw [← e2]; exact h2
  obtain ⟨u1, g1, s1⟩ := r1.get (List.getElem?_eq_getElem h1')
  obtain ⟨u2, g2, s2⟩ := r2.get (List.getElem?_eq_getElem h2')
  have w1 : its.toArray[j] = u1 := by
    have := (List.getElem?_eq_some_iff.mp g1).2
    simpa using this
  have w2 : its2.toArray[j] = u2 := by
    have := (List.getElem?_eq_some_iff.mp g2).2
    simpa using this
  rw [w1, w2]
  have d1 : xs.getD j .non = xs[j] := by rw [List.getD_eq_getElem?_getD, List.getElem?_eq_getElem h1']; rfl
  have d2 : ys.getD j .non = ys[j] := by rw [List.getD_eq_getElem?_getD, List.getElem?_eq_getElem h2']; rfl
  rw [d1, d2]
  exact eqAt_V s1 s2 (fx _ (List.getElem_mem h1')) (fy _ (List.getElem_mem h2'))
inductive rEqLI (K : PySem.W.Frag) (neg : Bool) (x : V) (y : V) (H : Hp) (Q : VK) : Prop
  | mk (a : Addr) (b : Addr) (xs : List V) (ys : List V) (x0 : x = .ref a) (x1 : y = .ref b) (x2 : SqL K H a xs) (x3 : SqL K H b ys) (x4 : (∀ z ∈ xs, flatV z = true)) (x5 : (∀ z ∈ ys, flatV z = true)) (x6 : Q (.bl (if neg then !eqTs xs ys else eqTs xs ys)) H) : rEqLI K neg x y H Q
def rEqL (K : PySem.W.Frag) (neg : Bool) : R2 := fun x y H Q => rEqLI K neg x y H Q
theorem op_eqL (hu : X.A.units < cLine) : OpR X (compareOp .Eq) (rEqL X.K false) := by
  intro pins s σ H x y v u Q I rx ry h
  obtain ⟨a, b, xs, ys, rfl, rfl, ha, hb, fx, fy, q⟩ := h
  cases rx
  cases ry
  obtain ⟨its, r1, p1, _⟩ := I.list ha
  obtain ⟨its2, r2, p2, _⟩ := I.list hb
  have e1 : its.toArray.size = xs.length := by rw [List.size_toArray]; exact r1.length.symm
  have e2 : its2.toArray.size = ys.length := by rw [List.size_toArray]; exact r2.length.symm
  by_cases hl : xs.length = ys.length
  · refine SeqAt.eq_listAt (e := fun j => eqV (xs.getD j .non) (ys.getD j .non)) p1.isList p2.isList (by rw [e1, e2, hl]) hu (fun j h1 h2 => flat_eqAt (pins := pins) (σ := σ) (H := H) r1 r2 fx fy j h1 h2) ?_
    refine ⟨.bl (eqTs xs ys), H, I, ?_, q⟩
    show Value.bool _ = Value.bool _
    congr 1
    unfold eqTs
    rw [e1, hl, Nat.min_self, beq_self_eq_true, Bool.and_true]
  · refine SeqAt.eq_list_lengthsAt p1.isList p2.isList (by rw [e1, e2]; simpa using hl) hu ⟨.bl (eqTs xs ys), H, I, ?_, q⟩
    show Value.bool _ = Value.bool _
    congr 1
    unfold eqTs
    rw [beq_eq_false_iff_ne.mpr hl, Bool.and_false]
theorem pe_range {a : Expr} {ta : TA} {p pos : Pos} (hg : Gl X "range") (hm : X.mg "range" = none) (ha : PA X [a] ta) (hs : starEach [a] X.env = [(false, eval a X.env)] := by rfl) :
    PE X (.Call (.Name "range" p) [a] [] pos) (fun σ H Q => ta σ H fun vs H1 => ∃ j : Int, vs = [.int j] ∧ ∀ r, H1 r = none → Q (.ref r) (upd H1 r (.rng 0 j))) := by
  intro pins s σ H Q I h
  refine Call_ (ld_blt I hg hm boot_range (PyProof.Rows.callWith_type1 (thn (ha pos pins s σ H _ I h) fun us s1 zq => zq.elim fun vs H1 I1 r1 q1 => ?_) hs rfl))
  obtain ⟨j, e, q⟩ := q1
  subst e
  cases r1 with
  | cons r rr =>
    cases rr
    obtain ⟨t, rfl⟩ := r
    exact call_range_1 ⟨.ref s1.heap.objs.size, upd H1 s1.heap.objs.size (.rng 0 j), I1.laid (fun b o e => Heap.get?_push_of_some _ e) (Nat.le_refl _) ⟨_, _, _, Heap.get?_push_size _ rfl⟩, rfl, q _ I1.fresh⟩
inductive r_call_list_rngI (xs : List V) (H : Hp) (Q : VK) : Prop
  | mk (r : Addr) (n : Nat) (h0_ : xs = [.ref r]) (h1_ : H r = some (.rng 0 (n : Int))) (h2_ : n ≤ 1000) (h3_ : ∀ l, H l = none → Q (.ref l) (upd H l (.lst ((List.range n).map fun (i : Nat) => V.int (i : Int))))) : r_call_list_rngI xs H Q
def r_call_list_rng : List V → Hp → VK → Prop := fun xs H Q => r_call_list_rngI xs H Q
theorem call_list_rng (hc : X.calm = true) : CallR X (.type "list") r_call_list_rng := by
  intro pins s σ H xs us Q I r h
  obtain ⟨r0, n, rfl, hr, hn, q⟩ := h
  obtain ⟨u, rfl, ru⟩ := vals1 r
  cases ru
  obtain ⟨t, u, v, e⟩ := (show ObjOk X.prog X.w H s.heap r0 (.rng 0 (n : Int)) from I.hok r0 _ hr)
  have hin : X.A.handled = none := I.ok.hd hc
  refine call_list_range (n := n) hin e (small_one (by omega) (by omega) (by omega) (by omega)) (by rw [rangeSize_one]; split <;> omega) (by omega) fun h' tk acc c' kp e' it => ?_
  have hz : ((List.range n).map fun (i : Nat) => V.int (i : Int)).length ≤ sizeLine := by rw [List.length_map, List.length_range]; exact le_line hn
  refine ⟨.ref s.heap.objs.size, _, I.laid (t' := tk) kp (Nat.le_refl _) (show ObjOk X.prog X.w _ h' _ (.lst _) from ⟨hz, acc.toList, c', ?_, by rw [Array.toArray_toList]; exact e'⟩), rfl, q _ I.fresh⟩
  have gen : ∀ (n : Nat) (l : List Value), l.length = n → (∀ (i : Nat) v, l[i]? = some v → ∃ t, v = Value.int (0 + (i : Int) * 1) t) → Vals ((List.range n).map fun (i : Nat) => V.int (i : Int)) l := by
    intro n
    induction n with
    | zero => intro l hl _; rw [List.eq_nil_of_length_eq_zero hl]; exact .nil
    | succ n ih =>
      intro l hl hi
      have hne : l ≠ [] := fun z => by rw [z] at hl; cases hl
      have e1 : l = l.dropLast ++ [l.getLast hne] := (List.dropLast_concat_getLast hne).symm
      rw [List.range_succ, List.map_append, e1]
      refine (ih l.dropLast (by rw [List.length_dropLast, hl]; rfl) fun i v hv => ?_).append (.cons ?_ .nil)
      · refine hi i v ?_
        rw [e1, List.getElem?_append_left ((List.getElem?_eq_some_iff.mp hv).1)]
        exact hv
      · have : l[n]? = some (l.getLast hne) := by
          rw [List.getLast_eq_getElem]
          have : l.length - 1 = n := by omega
          rw [List.getElem?_eq_getElem (by omega)]
          congr 1
          simp [this]
        obtain ⟨t, e⟩ := hi n _ this
        exact ⟨t, by rw [e]; congr 1; omega⟩
  exact gen n acc.toList (by rw [Array.length_toList]; exact it.1) fun i v hv => it.2 i v (by rw [← Array.getElem?_toList]; exact hv)
inductive r_call_dict_copyI (xs : List V) (H : Hp) (Q : VK) : Prop
  | mk (a : _) (kvs : _) (h0_ : xs = [.ref a]) (h1_ : Rd H a (.dK kvs)) (h2_ : ∀ p, H p = none → Q (.ref p) (upd H p (.dK kvs))) : r_call_dict_copyI xs H Q
inductive r_call_lenRI (xs : List V) (H : Hp) (Q : VK) : Prop
  | mk (a : _) (kvs : _) (h0_ : xs = [V.ref a]) (h1_ : Rd H a (.dK kvs)) (h2_ : Q (.int kvs.length) H) : r_call_lenRI xs H Q
end
end L2

set_option Elab.async false
set_option linter.all false
set_option maxRecDepth 100000
set_option maxHeartbeats 4000000
namespace L2
open PySem PySem.Spec PyProof.Rows
namespace Dc
mutual
def deep : Dc → Nat
  | leaf _ => 1
  | row _ xs => 1 + deepL xs
  | tab _ _ xs => 1 + deepL xs
def deepL : List Dc → Nat
  | [] => 0
  | x :: r => max (deep x) (deepL r)
end
theorem deep_pos (d : Dc) : 1 ≤ d.deep := by cases d <;> simp only [deep] <;> omega
theorem deepL_mem : ∀ {xs : List Dc} {x : Dc}, x ∈ xs → x.deep ≤ deepL xs
  | [], _, h => nomatch h
  | y :: r, x, h => by
    simp only [deepL]
    rcases List.mem_cons.mp h with rfl | h
    · omega
    · have := deepL_mem h
      omega
mutual
theorem deep_size : ∀ d : Dc, d.deep ≤ d.size
  | leaf _ => Nat.le_refl _
  | row a xs => by simp only [deep, size]; have := deepL_size xs; omega
  | tab a ks xs => by simp only [deep, size]; have := deepL_size xs; omega
theorem deepL_size : ∀ xs : List Dc, deepL xs ≤ sizeL xs
  | [] => Nat.le_refl _
  | x :: r => by simp only [deepL, sizeL]; have := deep_size x; have := deepL_size r; omega
end
mutual
def parts : Dc → List Dc
  | leaf v => [leaf v]
  | row a xs => row a xs :: partsL xs
  | tab a ks xs => tab a ks xs :: partsL xs
def partsL : List Dc → List Dc
  | [] => []
  | x :: r => parts x ++ partsL r
end
mutual
theorem parts_length : ∀ d : Dc, d.parts.length = d.size
  | leaf _ => rfl
  | row a xs => by simp only [parts, size, List.length_cons, partsL_length xs]; omega
  | tab a ks xs => by simp only [parts, size, List.length_cons, partsL_length xs]; omega
theorem partsL_length : ∀ xs : List Dc, (partsL xs).length = sizeL xs
  | [] => rfl
  | x :: r => by simp only [partsL, sizeL, List.length_append, parts_length x, partsL_length r]
end
structure PartOf (e d : Dc) : Prop where
  at_ : ∀ {H : Hp}, d.At H → e.At H
  ok : d.ok → e.ok
  slim : d.slim → e.slim
  deep : e.deep ≤ d.deep
  size : e.size ≤ d.size
  addrs : ∀ a ∈ e.addrs, a ∈ d.addrs
theorem PartOf.refl (d : Dc) : PartOf d d := ⟨id, id, id, Nat.le_refl _, Nat.le_refl _, fun _ h => h⟩
theorem PartOf.trans {e d c : Dc} (p : PartOf e d) (q : PartOf d c) : PartOf e c := ⟨fun h => p.at_ (q.at_ h), fun h => p.ok (q.ok h), fun h => p.slim (q.slim h), Nat.le_trans p.deep q.deep, Nat.le_trans p.size q.size, fun a h => q.addrs a (p.addrs a h)⟩
theorem PartOf.row {x : Dc} {a : Addr} {xs : List Dc} (h : x ∈ xs) : PartOf x (row a xs) :=
  ⟨fun q => by simp only [At] at q; exact AtL_mem q.2 x h, fun q => by simp only [Dc.ok] at q; exact okL_iff.mp q x h, fun q => by simp only [Dc.slim] at q; exact slimL_mem q x h,
    by simp only [Dc.deep]; have := deepL_mem h; omega, by simp only [Dc.size]; have := sizeL_mem h; omega, fun c hc => by simp only [Dc.addrs]; exact List.mem_cons_of_mem _ (addrsL_mem h hc)⟩
theorem PartOf.tab {x : Dc} {a : Addr} {ks : List Str} {xs : List Dc} (h : x ∈ xs) : PartOf x (tab a ks xs) :=
  ⟨fun q => by simp only [At] at q; exact AtL_mem q.2.2.2 x h, fun q => by simp only [Dc.ok] at q; exact okL_iff.mp q.2 x h, fun q => by simp only [Dc.slim] at q; exact slimL_mem q.2 x h,
    by simp only [Dc.deep]; have := deepL_mem h; omega, by simp only [Dc.size]; have := sizeL_mem h; omega, fun c hc => by simp only [Dc.addrs]; exact List.mem_cons_of_mem _ (addrsL_mem h hc)⟩
mutual
theorem part_of : ∀ (d : Dc) (e : Dc), e ∈ d.parts → PartOf e d
  | leaf v, e, h => by simp only [parts, List.mem_singleton] at h; subst h; exact .refl _
  | row a xs, e, h => by
    simp only [parts, List.mem_cons] at h
    rcases h with rfl | h
    · exact .refl _
    · obtain ⟨x, hx, hp⟩ := partL_of xs e h
      exact hp.trans (.row hx)
  | tab a ks xs, e, h => by
    simp only [parts, List.mem_cons] at h
    rcases h with rfl | h
    · exact .refl _
    · obtain ⟨x, hx, hp⟩ := partL_of xs e h
      exact hp.trans (.tab hx)
theorem partL_of : ∀ (xs : List Dc) (e : Dc), e ∈ partsL xs → ∃ x ∈ xs, PartOf e x
  | [], _, h => by simp [partsL] at h
  | x :: r, e, h => by
    simp only [partsL, List.mem_append] at h
    rcases h with h | h
    · exact ⟨x, List.mem_cons_self, part_of x e h⟩
    · obtain ⟨y, hy, he⟩ := partL_of r e h
      exact ⟨y, List.mem_cons_of_mem _ hy, he⟩
end
mutual
def like : Dc → Dc → Prop
  | leaf v, leaf w => v = w
  | row _ xs, row _ ys => likeL xs ys
  | tab _ ks xs, tab _ ls ys => ks = ls ∧ likeL xs ys
  | _, _ => False
def likeL : List Dc → List Dc → Prop
  | [], [] => True
  | x :: r, y :: t => like x y ∧ likeL r t
  | _, _ => False
end
theorem likeL_length : ∀ {xs ys : List Dc}, likeL xs ys → xs.length = ys.length
  | [], [], _ => rfl
  | [], _ :: _, h => by simp [likeL] at h
  | _ :: _, [], h => by simp [likeL] at h
  | x :: r, y :: t, h => by simp only [likeL] at h; simp only [List.length_cons, likeL_length h.2]
theorem likeL_append {xs xs' ys ys' : List Dc} : likeL xs ys → likeL xs' ys' → likeL (xs ++ xs') (ys ++ ys') := by
  induction xs generalizing ys with
  | nil =>
    intro h h'
    cases ys with
    | nil => exact h'
    | cons y t => simp [likeL] at h
  | cons x r ih =>
    intro h h'
    cases ys with
    | nil => simp [likeL] at h
    | cons y t =>
      simp only [likeL, List.cons_append] at h ⊢
      exact ⟨h.1, ih h.2 h'⟩
mutual
theorem like_refl : ∀ d : Dc, like d d
  | leaf _ => by simp [like]
  | row _ xs => by simp only [like]; exact likeL_refl xs
  | tab _ _ xs => by simp only [like]; exact ⟨trivial, likeL_refl xs⟩
theorem likeL_refl : ∀ xs : List Dc, likeL xs xs
  | [] => by simp [likeL]
  | x :: r => by simp only [likeL]; exact ⟨like_refl x, likeL_refl r⟩
end
mutual
theorem like_symm : ∀ d e : Dc, like d e → like e d
  | leaf v, e, h => by cases e <;> simp_all [like]
  | row a xs, e, h => by
    cases e with
    | row b ys => simp only [like] at h ⊢; exact likeL_symm xs ys h
    | _ => simp [like] at h
  | tab a ks xs, e, h => by
    cases e with
    | tab b ls ys => simp only [like] at h ⊢; exact ⟨h.1.symm, likeL_symm xs ys h.2⟩
    | _ => simp [like] at h
theorem likeL_symm : ∀ xs ys : List Dc, likeL xs ys → likeL ys xs
  | [], [], _ => by simp [likeL]
  | [], _ :: _, h => by simp [likeL] at h
  | _ :: _, [], h => by simp [likeL] at h
  | x :: r, y :: t, h => by simp only [likeL] at h ⊢; exact ⟨like_symm x y h.1, likeL_symm r t h.2⟩
end
mutual
theorem like_ok : ∀ d e : Dc, like d e → d.ok → e.ok
  | leaf v, e, h, k => by cases e <;> simp_all [like, ok]
  | row a xs, e, h, k => by
    cases e with
    | row b ys => simp only [like] at h; simp only [ok] at k ⊢; exact likeL_ok xs ys h k
    | _ => simp [like] at h
  | tab a ks xs, e, h, k => by
    cases e with
    | tab b ls ys => simp only [like] at h; simp only [ok] at k ⊢; exact ⟨h.1 ▸ k.1, likeL_ok xs ys h.2 k.2⟩
    | _ => simp [like] at h
theorem likeL_ok : ∀ xs ys : List Dc, likeL xs ys → okL xs → okL ys
  | [], [], _, _ => by simp [okL]
  | [], _ :: _, h, _ => by simp [likeL] at h
  | _ :: _, [], h, _ => by simp [likeL] at h
  | x :: r, y :: t, h, k => by simp only [likeL] at h; simp only [okL] at k ⊢; exact ⟨like_ok x y h.1 k.1, likeL_ok r t h.2 k.2⟩
end
mutual
theorem like_size : ∀ d e : Dc, like d e → d.size = e.size
  | leaf v, e, h => by cases e <;> simp_all [like, size]
  | row a xs, e, h => by
    cases e with
    | row b ys => simp only [like] at h; simp only [size, likeL_size xs ys h]
    | _ => simp [like] at h
  | tab a ks xs, e, h => by
    cases e with
    | tab b ls ys => simp only [like] at h; simp only [size, likeL_size xs ys h.2]
    | _ => simp [like] at h
theorem likeL_size : ∀ xs ys : List Dc, likeL xs ys → sizeL xs = sizeL ys
  | [], [], _ => rfl
  | [], _ :: _, h => by simp [likeL] at h
  | _ :: _, [], h => by simp [likeL] at h
  | x :: r, y :: t, h => by simp only [likeL] at h; simp only [sizeL, like_size x y h.1, likeL_size r t h.2]
end
def kids : Dc → List Dc
  | leaf _ => []
  | row _ xs => xs
  | tab _ _ xs => xs
def StepsOf : Dc → List V → Prop
  | leaf _, l => l = []
  | row _ xs, l => l = (List.range xs.length).map fun (i : Nat) => V.int (i : Int)
  | tab _ ks _, l => ∃ ss : List Str, l = ss.map V.str ∧ ss.Perm ks ∧ sortedS ss = true
end Dc
structure Fresh (H H' : Hp) (d : Dc) : Prop where
  same : Same H H'
  at_ : d.At H'
  nd : d.addrs.Nodup
  own : ∀ a ∈ d.addrs, ∀ o u, H' a ≠ some (.frz o u)
  new : ∀ a ∈ d.addrs, H a = none
theorem Made.fresh {H H' : Hp} {d : Dc} (m : Made H H' d) : Fresh H H' d := ⟨m.same, m.at_, m.nd, m.own, m.new⟩
theorem Fresh.made {H H' : Hp} {d : Dc} (m : Fresh H H' d) (ok : d.ok) : Made H H' d := ⟨m.same, m.at_, ok, m.nd, m.own, m.new⟩
theorem Fresh.up {H H1 H2 : Hp} {d : Dc} (D : Fresh H H1 d) (s : Same H1 H2) : Fresh H H2 d := ⟨D.same.trans s, Dc.at_same s D.at_, D.nd, fun a ha => frz_up (Dc.there D.at_ ha) (D.own a ha) (s a), D.new⟩
theorem while_W {c : TT} {tb : TS} {D : Ends} {σ : St} {H : Hp} (W : Nat → St → Hp → Prop) (m0 : Nat) (h0 : W m0 σ H)
    (hs : ∀ m σ H, W m σ H → c σ H fun b H1 => if b = true then tb { D with nx := fun σ' H' => ∃ m', m' < m ∧ W m' σ' H', ct := fun σ' H' => ∃ m', m' < m ∧ W m' σ' H', bk := D.nx } σ H1 else D.nx σ H1)
    (mono : ∀ σ H Q Q', (∀ b H1, Q b H1 → Q' b H1) → c σ H Q → c σ H Q') : tWhile c tb D σ H := by
  refine ⟨W, ⟨m0, h0⟩, fun m σ H p => ?_⟩
  refine mono σ H _ _ (fun b H1 q => ?_) (hs m σ H p)
  cases b with
  | true => exact ⟨_, fun σ' H' z => z, q⟩
  | false => exact q
inductive spCopyI (n : Nat) (vs : List V) (H : Hp) (Q : VK) (u3_ : XK) : Prop
  | mk (d : Dc) (x0 : vs = [d.val]) (x1 : d.At H) (x2 : d.deep ≤ n) (x3 : d.size ≤ 900) (x4 : ∀ (d' : Dc) (H' : Hp), Fresh H H' d' → Dc.like d d' → Q d'.val H') : spCopyI n vs H Q u3_
def spCopy (n : Nat) : Sp := fun vs H Q u3_ => spCopyI n vs H Q u3_
inductive spAlikeI (n : Nat) (vs : List V) (H : Hp) (Q : VK) (u3_ : XK) : Prop
  | mk (d : Dc) (e : Dc) (x0 : vs = [d.val, e.val]) (x1 : d.At H) (x2 : e.At H) (x3 : Dc.like d e) (x4 : d.slim) (x5 : d.deep ≤ n) (x6 : d.size ≤ 900) (x7 : ∀ H', Same H H' → Q (.bl true) H') : spAlikeI n vs H Q u3_
inductive spPartsI (n : Nat) (vs : List V) (H : Hp) (Q : VK) (u3_ : XK) : Prop
  | mk (d : Dc) (x0 : vs = [d.val]) (x1 : d.At H) (x2 : d.deep ≤ n) (x3 : d.size ≤ 900) (x4 : ∀ (p : Addr) (H' : Hp), Same H H' → H p = none → H' p = some (.lst (d.parts.map Dc.val)) → Q (.ref p) H') : spPartsI n vs H Q u3_
inductive spStepsI (vs : List V) (H : Hp) (Q : VK) (u3_ : XK) : Prop
  | mk (d : Dc) (x0 : vs = [d.val]) (x1 : d.At H) (x2 : d.slim) (x3 : d.size ≤ 900) (x4 : ∀ (p : Addr) (l : List V) (H' : Hp), Same H H' → H p = none → H' p = some (.lst l) → d.StepsOf l → Q (.ref p) H') : spStepsI  vs H Q u3_
inductive spInnerI (vs : List V) (H : Hp) (Q : VK) (u3_ : XK) : Prop
  | mk (d : Dc) (x0 : vs = [d.val]) (x1 : d.At H) (x2 : d.slim) (x3 : d.size ≤ 900) (x4 : ∀ (p : Addr) (es : List Dc) (H' : Hp), Same H H' → H p = none → H' p = some (.lst (es.map Dc.val)) → es.Perm d.kids → Q (.ref p) H') : spInnerI  vs H Q u3_
inductive spSizeOfI (vs : List V) (H : Hp) (Q : VK) (u3_ : XK) : Prop
  | mk (d : Dc) (x0 : vs = [d.val]) (x1 : d.At H) (x2 : d.slim) (x3 : d.size ≤ 900) (x4 : ∀ H', Same H H' → Q (.int (d.size : Int)) H') : spSizeOfI  vs H Q u3_
inductive spIsDocI (vs : List V) (H : Hp) (Q : VK) (u3_ : XK) : Prop
  | mk (d : Dc) (x0 : vs = [d.val]) (x1 : d.At H) (x2 : d.ok) (x3 : d.slim) (x4 : d.size ≤ 900) (x5 : ∀ H', Same H H' → Q (.bl true) H') : spIsDocI  vs H Q u3_
def Dc.kindS : Dc → Str
  | .leaf (.str _) => "text"
  | .leaf _ => "number"
  | .row _ _ => "row"
  | .tab _ _ _ => "table"
inductive spKindI (vs : List V) (H : Hp) (Q : VK) (u3_ : XK) : Prop
  | mk (d : Dc) (x0 : vs = [d.val]) (x1 : d.At H) (x2 : Q (.str d.kindS) H) : spKindI  vs H Q u3_
inductive spPathsI (n : Nat) (vs : List V) (H : Hp) (Q : VK) (u3_ : XK) : Prop
  | mk (d : Dc) (t : Addr) (xs : List V) (x0 : vs = [d.val, .ref t]) (x1 : d.At H) (x2 : d.ok) (x3 : d.slim) (x4 : d.deep ≤ n) (x5 : H t = some (.tup xs)) (x6 : xs.length + d.size ≤ 1000) (x7 : ∀ (p : Addr) (ps : List Addr) (H' : Hp), Same H H' → H p = none → H' p = some (.lst (ps.map V.ref)) → ps.length = d.size → (∀ q ∈ ps, ∃ zs, H' q = some (.tup (xs ++ zs)) ∧ (d.sub zs).isSome = true) → Q (.ref p) H') : spPathsI n vs H Q u3_
end L2

set_option Elab.async false
set_option linter.all false
set_option maxRecDepth 100000
set_option maxHeartbeats 4000000
namespace L2
open PySem PySem.Spec PyProof.Rows
def back (a : Addr) (H H' : Hp) : Hp := fun b => if b = a then H a else H' b
theorem back_ne {a b : Addr} {H H' : Hp} (h : b ≠ a) : back a H H' b = H' b := if_neg h
theorem back_at {a : Addr} {H H' : Hp} : back a H H' a = H a := if_pos rfl
theorem back_upd {a : Addr} {H H' : Hp} {u : HO} (e : H a = some u) : back a H H' = upd H' a u := by
  funext b
  unfold back upd
  split
  · exact e
  · rfl
theorem back_same {a : Addr} {H H' : Hp} (e : H a = H' a) : back a H H' = H' := by
  funext b
  unfold back
  split
  · rename_i h; rw [h, e]
  · rfl
structure Frz (a : Addr) (o : Obj) (kvs : List (Key × V)) (H Hf : Hp) : Prop where
  at_ : Hf a = some (.frz o (.dK kvs))
  rd : SameR H Hf
  ne : ∀ b, b ≠ a → Hf b = H b
  rda : Rd H a (.dK kvs)
theorem Frz.free {a b : Addr} {o : Obj} {kvs : List (Key × V)} {H Hf : Hp} (F : Frz a o kvs H Hf) (h : Hf b = none) : H b = none ∧ b ≠ a := by
  have hb : b ≠ a := fun z => by rw [z, F.at_] at h; cases h
  rw [F.ne b hb] at h
  exact ⟨h, hb⟩
theorem Frz.back {a : Addr} {o : Obj} {kvs : List (Key × V)} {H Hf Hi : Hp} (F : Frz a o kvs H Hf) (s : Same Hf Hi) : Same H (back a H Hi) := fun b u e => by
  by_cases hb : b = a
  · subst hb; rw [back_at]; exact e
  · rw [back_ne hb]
    exact s b u (by rw [F.ne b hb]; exact e)
inductive tWalkEI (t : TE) (σ : St) (H : Hp) (Q : VK) : Prop
  | mk (a : _) (kvs : _) (x0 : Rd H a (.dK kvs)) (x1 : ∀ o Hf, Frz a o kvs H Hf → t σ Hf fun v H' => H' a = some (.frz o (.dK kvs)) ∧ Q v (back a H H')) : tWalkEI t σ H Q
def tWalkE (t : TE) : TE := fun σ H Q => tWalkEI t σ H Q
inductive tWalkSI (t : TS) (D : Ends) (σ : St) (H : Hp) : Prop
  | mk (a : _) (kvs : _) (x0 : Rd H a (.dK kvs)) (x1 : ∀ o Hf, Frz a o kvs H Hf → t ⟨fun σ H' => H' a = some (.frz o (.dK kvs)) ∧ D.nx σ (back a H H'), fun v H' => H' a = some (.frz o (.dK kvs)) ∧ D.rt v (back a H H'), fun σ H' => H' a = some (.frz o (.dK kvs)) ∧ D.bk σ (back a H H'), fun σ H' => H' a = some (.frz o (.dK kvs)) ∧ D.ct σ (back a H H')⟩ σ Hf) : tWalkSI t D σ H
def tWalkS (t : TS) : TS := fun D σ H => tWalkSI t D σ H
theorem Frz.of {a : Addr} {o : Obj} {kvs : List (Key × V)} {H : Hp} (e : H a = some (.dK kvs)) : Frz a o kvs H (upd H a (.frz o (.dK kvs))) := ⟨upd_same, SameR.frz e, fun b hb => upd_ne hb, .inl e⟩
theorem Frz.same {a : Addr} {o : Obj} {kvs : List (Key × V)} {H : Hp} (e : H a = some (.frz o (.dK kvs))) : Frz a o kvs H H := ⟨e, fun _ _ r => r, fun _ _ => rfl, .inr ⟨o, e⟩⟩
section
variable {X : Cx}
theorem pe_walk {e : Expr} {t : TE} (h : PE X e t) : PE X e (tWalkE t) := by
  rintro pins s σ H Q I ⟨a, kvs, r, hq⟩
  rcases r with r | ⟨o, r⟩
  · refine pe_frz h pins s σ H Q I ⟨a, kvs, r, fun o => ?_⟩
    have := hq o _ (Frz.of r)
    have e : (fun v H' => H' a = some (.frz o (.dK kvs)) ∧ Q v (back a H H')) = fun v => Thaw a o kvs (Q v) := by
      funext v H'
      unfold Thaw
      rw [back_upd r]
    rw [e] at this
    exact this
  · refine thn (h pins s σ H _ I (hq o H (Frz.same r))) fun u s1 ⟨v, H1, I1, r1, e1, q1⟩ => ⟨v, H1, I1, r1, ?_⟩
    rw [back_same (r.trans e1.symm)] at q1
    exact q1
theorem ps_walk {st : Stmt} {t : TS} (h : PS X st t) : PS X st (tWalkS t) := by
  rintro pins s σ H D I ⟨a, kvs, r, hq⟩
  rcases r with r | ⟨o, r⟩
  · refine ps_frz h pins s σ H D I ⟨a, kvs, r, fun o => ?_⟩
    have := hq o _ (Frz.of r)
    have e : ∀ k : Hp → Prop, (fun H' => H' a = some (.frz o (.dK kvs)) ∧ k (back a H H')) = Thaw a o kvs k := fun k => by
      funext H'
      unfold Thaw
      rw [back_upd r]
    simp only [← e]
    exact this
  · refine thn (h pins s σ H _ I (hq o H (Frz.same r))) fun f s1 h1 => ?_
    cases f with
    | next => obtain ⟨σ1, H1, I1, e1, q1⟩ := h1; rw [back_same (r.trans e1.symm)] at q1; exact ⟨σ1, _, I1, q1⟩
    | brk => obtain ⟨σ1, H1, I1, e1, q1⟩ := h1; rw [back_same (r.trans e1.symm)] at q1; exact ⟨σ1, _, I1, q1⟩
    | cont => obtain ⟨σ1, H1, I1, e1, q1⟩ := h1; rw [back_same (r.trans e1.symm)] at q1; exact ⟨σ1, _, I1, q1⟩
    | ret u => obtain ⟨v, σ1, H1, I1, r1, e1, q1⟩ := h1; rw [back_same (r.trans e1.symm)] at q1; exact ⟨v, σ1, _, I1, r1, q1⟩
end
theorem comp_by {J : It} {te : TE} {fs : List Nat} {σ : St} {H : Hp} {Q : VK} (n : Nat) (item : Nat → V) (P : Addr → Nat → Hp → Prop) (h0 : ∀ D, H D = none → P D 0 (upd H D (.lst [])))
    (hgo : ∀ D i H2, i < n → P D i H2 → J.go i H2) (hy : ∀ D i H2 v H', i < n → P D i H2 → J.yld i H2 v H' → v = item i ∧ H' = H2) (hst : ∀ D H2, P D n H2 → J.stop n H2)
    (he : ∀ D i H2, H D = none → i < n → P D i H2 → te (some (item i) :: pickS σ fs) H2 fun y H5 => ∃ ys, H5 D = some (.lst ys) ∧ ys.length < sizeLine ∧ P D (i + 1) (upd H5 D (.lst (ys ++ [y]))))
    (hQ : ∀ D H2, H D = none → P D n H2 → Q (.ref D) H2) : CompRd J tYes te fs σ H Q := by
  intro D hD
  refine ⟨fun i m H2 => m = n - i ∧ i ≤ n ∧ P D i H2, ⟨n, rfl, Nat.zero_le _, h0 D hD⟩, ?_⟩
  rintro i m H2 ⟨rfl, hi, p⟩
  by_cases hlt : i < n
  · refine .inr ⟨hgo D i H2 hlt p, fun v H3 y => ?_⟩
    obtain ⟨rfl, rfl⟩ := hy D i H2 v H3 hlt p y
    unfold tYes
    dsimp only
    rw [if_pos rfl]
    have key := he D i H3 hD hlt p
    have e : (fun (y : V) (H5 : Hp) => ∃ ys, H5 D = some (.lst ys) ∧ ys.length < sizeLine ∧ ∃ m', m' < n - i ∧ m' = n - (i + 1) ∧ i + 1 ≤ n ∧ P D (i + 1) (upd H5 D (.lst (ys ++ [y])))) = fun y H5 => ∃ ys, H5 D = some (.lst ys) ∧ ys.length < sizeLine ∧ P D (i + 1) (upd H5 D (.lst (ys ++ [y]))) := by
      funext y H5
      refine propext ⟨fun ⟨ys, a, b, m', _, _, _, c⟩ => ⟨ys, a, b, c⟩, fun ⟨ys, a, b, c⟩ => ⟨ys, a, b, n - (i + 1), by omega, rfl, hlt, c⟩⟩
    rw [← e] at key
    exact key
  · have e : i = n := by omega
    subst e
    exact .inl ⟨hst D H2 p, hQ D H2 hD p⟩
structure FreshL (H H' : Hp) (es : List Dc) : Prop where
  same : Same H H'
  at_ : Dc.AtL H' es
  nd : (Dc.addrsL es).Nodup
  own : ∀ a ∈ Dc.addrsL es, ∀ o u, H' a ≠ some (.frz o u)
  new : ∀ a ∈ Dc.addrsL es, H a = none
theorem FreshL.nil {H H' : Hp} (s : Same H H') : FreshL H H' [] := ⟨s, trivial, .nil, fun a h => (nomatch h), fun a h => (nomatch h)⟩
theorem Dc.thereL {H : Hp} {es : List Dc} {b : Addr} (h : Dc.AtL H es) (hb : b ∈ Dc.addrsL es) : H b ≠ none := by
  induction es with
  | nil => cases hb
  | cons x r ih =>
    simp only [Dc.AtL] at h
    simp only [Dc.addrsL, List.mem_append] at hb
    rcases hb with hb | hb
    · exact Dc.there h.1 hb
    · exact ih h.2 hb
theorem FreshL.frame {H H1 H2 : Hp} {es : List Dc} (F : FreshL H H1 es) (s : Same H H2) (f : ∀ a ∈ Dc.addrsL es, ∀ o, H1 a = some o → H2 a = some o) : FreshL H H2 es :=
  ⟨s, Dc.atL_frame es f F.at_, F.nd, fun a ha => frz_up (Dc.thereL F.at_ ha) (F.own a ha) (f a ha), F.new⟩
theorem Fresh.frame {H H1 H2 : Hp} {d : Dc} (F : Fresh H H1 d) (s : Same H H2) (f : ∀ a ∈ d.addrs, ∀ o, H1 a = some o → H2 a = some o) : Fresh H H2 d :=
  ⟨s, Dc.at_frame d f F.at_, F.nd, fun a ha => frz_up (Dc.there F.at_ ha) (F.own a ha) (f a ha), F.new⟩
theorem FreshL.up {H H1 H2 : Hp} {es : List Dc} (F : FreshL H H1 es) (s : Same H1 H2) : FreshL H H2 es := F.frame (F.same.trans s) fun a _ => s a
theorem FreshL.snoc {H H2 H3 : Hp} {es : List Dc} {d : Dc} (F : FreshL H H2 es) (f : Fresh H2 H3 d) : FreshL H H3 (es ++ [d]) := by
  have F3 := F.up f.same
  have ea : Dc.addrsL (es ++ [d]) = Dc.addrsL es ++ d.addrs := by rw [Dc.addrsL_append]; simp [Dc.addrsL]
  refine ⟨F3.same, (Dc.AtL_append _ _).mpr ⟨F3.at_, by simp only [Dc.AtL]; exact ⟨f.at_, trivial⟩⟩, ?_, fun a ha => ?_, fun a ha => ?_⟩
  · rw [ea]
    refine List.nodup_append.mpr ⟨F.nd, f.nd, fun a ha b hb e => ?_⟩
    subst e
    exact Dc.thereL F.at_ ha (f.new a hb)
  · rw [ea] at ha
    rcases List.mem_append.mp ha with ha | ha
    · exact F3.own a ha
    · exact f.own a ha
  · rw [ea] at ha
    rcases List.mem_append.mp ha with ha | ha
    · exact F.new a ha
    · exact F.same.free (f.new a ha)
theorem FreshL.out {H H' : Hp} {es : List Dc} {D : Addr} {o : HO} (F : FreshL H H' es) (h : H D = some o) : D ∉ Dc.addrsL es := fun z => by
  have := F.new D z
  rw [h] at this
  cases this
theorem FreshL.row {H H' : Hp} {es : List Dc} {D : Addr} (F : FreshL H H' es) (hD : H D = none) (nD : D ∉ Dc.addrsL es) (e : H' D = some (.lst (es.map Dc.val))) : Fresh H H' (.row D es) := by
  refine ⟨F.same, by simp only [Dc.At]; exact ⟨.inl e, F.at_⟩, ?_, fun a ha => ?_, fun a ha => ?_⟩
  · simp only [Dc.addrs]; exact List.nodup_cons.mpr ⟨nD, F.nd⟩
  · simp only [Dc.addrs, List.mem_cons] at ha
    rcases ha with rfl | ha
    · intro o u z; rw [e] at z; cases z
    · exact F.own a ha
  · simp only [Dc.addrs, List.mem_cons] at ha
    rcases ha with rfl | ha
    · exact hD
    · exact F.new a ha
theorem FreshL.tab {H H' : Hp} {es : List Dc} {ks : List Str} {D : Addr} (F : FreshL H H' es) (hD : H D = none) (nD : D ∉ Dc.addrsL es) (l : ks.length = es.length) (nk : ks.Nodup) (e : H' D = some (.dK (Dc.kvs ks es))) : Fresh H H' (.tab D ks es) := by
  refine ⟨F.same, by simp only [Dc.At]; exact ⟨.inl e, l, nk, F.at_⟩, ?_, fun a ha => ?_, fun a ha => ?_⟩
  · simp only [Dc.addrs]; exact List.nodup_cons.mpr ⟨nD, F.nd⟩
  · simp only [Dc.addrs, List.mem_cons] at ha
    rcases ha with rfl | ha
    · intro o u z; rw [e] at z; cases z
    · exact F.own a ha
  · simp only [Dc.addrs, List.mem_cons] at ha
    rcases ha with rfl | ha
    · exact hD
    · exact F.new a ha
theorem mergeK_nodup : ∀ (more kvs : List (Key × V)), ((kvs ++ more).map (·.1)).Nodup → mergeK kvs more = kvs ++ more
  | [], kvs, _ => by simp [mergeK]
  | p :: r, kvs, h => by
    have hk : valV kvs p.1 = none := by
      cases e : valV kvs p.1 with
      | none => rfl
      | some v =>
        have := valV_in e
        rw [List.map_append, List.map_cons] at h
        obtain ⟨_, _, h3⟩ := List.nodup_append.mp h
        exact absurd rfl (h3 p.1 this p.1 List.mem_cons_self)
    show mergeK (putK kvs p.1 p.2) r = _
    rw [putK_new p.2 hk, mergeK_nodup r (kvs ++ [(p.1, p.2)]) (by simpa using h)]
    simp
namespace Dc
theorem zip_at {nm : Str} {x : Dc} : ∀ (ks : List Str) (xs : List Dc) (i : Nat), ks.Nodup → ks[i]? = some nm → xs[i]? = some x → (ks.zip xs).lookup nm = some x
  | [], _, _, _, h, _ => by simp at h
  | y :: r, [], _, _, _, h => by simp at h
  | y :: r, z :: t, 0, _, h1, h2 => by simp at h1 h2; subst h1 h2; simp
  | y :: r, z :: t, i + 1, nd, h1, h2 => by
    obtain ⟨n1, n2⟩ := List.nodup_cons.mp nd
    have h1' : r[i]? = some nm := by simpa using h1
    have ne : nm ≠ y := fun z => n1 (z ▸ List.mem_of_getElem? h1')
    have : (nm == y) = false := by simpa using ne
    simp only [List.zip_cons_cons, List.lookup_cons, this]
    exact zip_at r t i n2 h1' (by simpa using h2)
theorem kvs_len {ks : List Str} {xs : List Dc} (h : ks.length = xs.length) : (kvs ks xs).length = xs.length := by
  have := congrArg List.length (kvs_keys (ks := ks) (xs := xs) h)
  rw [List.length_map, List.length_map] at this
  rw [this, h]
theorem kvs_at {ks : List Str} {xs : List Dc} (h : ks.length = xs.length) (nd : ks.Nodup) {i : Nat} {k : Key} {v : V} (e : (kvs ks xs)[i]? = some (k, v)) :
    ∃ nm x, ks[i]? = some nm ∧ xs[i]? = some x ∧ k = Sum.inr nm ∧ v = x.val ∧ (ks.zip xs).lookup nm = some x ∧ valV (kvs ks xs) (Sum.inr nm) = some x.val := by
  have hi : i < xs.length := by rw [← kvs_len h]; exact (List.getElem?_eq_some_iff.mp e).1
  obtain ⟨x, hx⟩ : ∃ x, xs[i]? = some x := ⟨_, List.getElem?_eq_getElem hi⟩
  obtain ⟨nm, hnm⟩ : ∃ nm, ks[i]? = some nm := ⟨_, List.getElem?_eq_getElem (by rw [h]; exact hi)⟩
  have lk := zip_at ks xs i nd hnm hx
  have e' := e
  unfold kvs at e'
  rw [List.getElem?_map] at e'
  have ez : (ks.zip (xs.map val))[i]? = some (nm, x.val) := by
    rw [List.getElem?_zip_eq_some]
    exact ⟨hnm, by rw [List.getElem?_map, hx]; rfl⟩
  rw [ez] at e'
  have e' := Option.some.inj e'
  exact ⟨nm, x, hnm, hx, (congrArg Prod.fst e').symm, (congrArg Prod.snd e').symm, lk, by rw [valV_kvs h, lk]; rfl⟩
end Dc
end L2

set_option Elab.async false
set_option linter.all false
set_option maxRecDepth 100000
set_option maxHeartbeats 4000000
namespace L2
open PySem PySem.Spec PyProof.Rows
def wholeV : V → Bool
  | .int _ => true
  | _ => false
def nameV : V → Bool
  | .str x => nameB x
  | _ => false
def Short (v : V) : Prop := ∀ x, v = .str x → x.length ≤ 1000
inductive spWholeI (vs : List V) (H : Hp) (Q : VK) (u3_ : XK) : Prop
  | mk (v : _) (T : _) (x0 : vs = [v]) (x1 : TyN H v T) (x2 : Q (.bl (wholeV v)) H) : spWholeI  vs H Q u3_
def spWhole : Sp := fun vs H Q u3_ => spWholeI  vs H Q u3_
inductive spLettersI (vs : List V) (H : Hp) (Q : VK) (u3_ : XK) : Prop
  | mk (x : Str) (x0 : vs = [.str x]) (x1 : x.length ≤ 1000) (x2 : ∀ H', Same H H' → Q (.bl ((sgn x).all isL)) H') : spLettersI  vs H Q u3_
def spLetters : Sp := fun vs H Q u3_ => spLettersI  vs H Q u3_
inductive spNameI (vs : List V) (H : Hp) (Q : VK) (u3_ : XK) : Prop
  | mk (v : _) (T : _) (x0 : vs = [v]) (x1 : TyN H v T) (x2 : Short v) (x3 : ∀ H', Same H H' → Q (.bl (nameV v)) H') : spNameI  vs H Q u3_
def spName : Sp := fun vs H Q u3_ => spNameI  vs H Q u3_
inductive spSoundI (vs : List V) (H : Hp) (Q : VK) (u3_ : XK) : Prop
  | mk (d : Dc) (x0 : vs = [d.val]) (x1 : d.At H) (x2 : d.ok) (x3 : d.size ≤ 900) (x4 : ∀ H', Same H H' → Q (.bl true) H') : spSoundI  vs H Q u3_
end L2

set_option Elab.async false
set_option linter.all false
set_option maxRecDepth 100000
set_option maxHeartbeats 4000000
namespace L2
open PySem PySem.Spec PyProof.Rows
def OutC (H Hi : Hp) (c : V) : Dc → Prop
  | .leaf v => c = v ∧ Dc.Lf v
  | .row _ xs => ∃ a, c = .ref a ∧ Hi a = some (.lst (xs.map Dc.val)) ∧ H a = none
  | .tab _ ks xs => ∃ a, c = .ref a ∧ Hi a = some (.dK (Dc.kvs ks xs)) ∧ H a = none
def rootOf (p : V × Dc) : Option Addr := match p.1 with
  | .ref a => some a
  | _ => none
abbrev roots (ps : List (V × Dc)) : List Addr := ps.filterMap rootOf
theorem roots_mem {ps : List (V × Dc)} {c : Addr} : c ∈ roots ps ↔ ∃ p ∈ ps, p.1 = .ref c := by
  rw [List.mem_filterMap]
  constructor
  · rintro ⟨p, hp, e⟩
    refine ⟨p, hp, ?_⟩
    unfold rootOf at e
    split at e
    · rename_i a h; cases e; exact h
    · cases e
  · rintro ⟨p, hp, e⟩
    exact ⟨p, hp, by unfold rootOf; rw [e]⟩
theorem roots_append (ps qs : List (V × Dc)) : roots (ps ++ qs) = roots ps ++ roots qs := List.filterMap_append ..
def DoneL : List (V × Dc) → List Dc → Prop
  | [], [] => True
  | p :: ps, e :: es => e.val = p.1 ∧ Dc.like p.2 e ∧ DoneL ps es
  | _, _ => False
theorem DoneL.split : ∀ {ps qs : List (V × Dc)} {es : List Dc}, DoneL (ps ++ qs) es → ∃ er ec, es = er ++ ec ∧ DoneL ps er ∧ DoneL qs ec
  | [], qs, es, h => ⟨[], es, rfl, trivial, h⟩
  | p :: ps, qs, [], h => by simp [DoneL] at h
  | p :: ps, qs, e :: es, h => by
    simp only [List.cons_append, DoneL] at h
    obtain ⟨er, ec, rfl, h1, h2⟩ := DoneL.split h.2.2
    exact ⟨e :: er, ec, rfl, by simp only [DoneL]; exact ⟨h.1, h.2.1, h1⟩, h2⟩
theorem DoneL.app : ∀ {ps qs : List (V × Dc)} {er ec : List Dc}, DoneL ps er → DoneL qs ec → DoneL (ps ++ qs) (er ++ ec)
  | [], qs, [], ec, _, h => h
  | [], _, _ :: _, _, h, _ => by simp [DoneL] at h
  | _ :: _, _, [], _, h, _ => by simp [DoneL] at h
  | p :: ps, qs, e :: er, ec, h, h' => by
    simp only [DoneL, List.cons_append] at h ⊢
    exact ⟨h.1, h.2.1, DoneL.app h.2.2 h'⟩
theorem DoneL.vals : ∀ {ps : List (V × Dc)} {es : List Dc}, DoneL ps es → es.map Dc.val = ps.map (·.1)
  | [], [], _ => rfl
  | [], _ :: _, h => by simp [DoneL] at h
  | _ :: _, [], h => by simp [DoneL] at h
  | p :: ps, e :: es, h => by
    simp only [DoneL] at h
    simp only [List.map_cons, h.1, DoneL.vals h.2.2]
structure CpInv (H Hi : Hp) (L : Addr) (tv : V) (d : Dc) (ps : List (V × Dc)) : Prop where
  same : Same H Hi
  nL : H L = none
  eL : Hi L = some (.lst (ps.map (·.1)))
  out : ∀ p ∈ ps, OutC H Hi p.1 p.2
  src : ∀ p ∈ ps, p.2.At H ∧ p.2.slim
  nd : (roots ps).Nodup
  nLr : L ∉ roots ps
  wand : ∀ (es : List Dc) (H' : Hp), DoneL ps es → FreshL H H' es → (∀ c ∈ Dc.addrsL es, Hi c = none ∨ c ∈ roots ps) → (∀ b o, b ≠ L → b ∉ roots ps → Hi b = some o → H' b = some o) → ∃ e : Dc, e.val = tv ∧ Dc.like d e ∧ Fresh H H' e
theorem OutC.root {H Hi : Hp} {p : V × Dc} {c : Addr} (o : OutC H Hi p.1 p.2) (e : p.1 = .ref c) : Hi c ≠ none ∧ H c = none ∧ ∀ ob u, Hi c ≠ some (.frz ob u) := by
  obtain ⟨v, d⟩ := p
  simp only at e
  subst e
  cases d with
  | leaf v =>
    obtain ⟨rfl, h⟩ := (show V.ref c = v ∧ Dc.Lf v from o)
    rcases h with ⟨i, h⟩ | ⟨x, h, _⟩ <;> cases h
  | row b xs =>
    obtain ⟨a, e, h1, h2⟩ := (show ∃ a, V.ref c = .ref a ∧ Hi a = some (.lst (xs.map Dc.val)) ∧ H a = none from o)
    cases e
    exact ⟨by rw [h1]; simp, h2, fun ob u z => by rw [h1] at z; cases z⟩
  | tab b ks xs =>
    obtain ⟨a, e, h1, h2⟩ := (show ∃ a, V.ref c = .ref a ∧ Hi a = some (.dK (Dc.kvs ks xs)) ∧ H a = none from o)
    cases e
    exact ⟨by rw [h1]; simp, h2, fun ob u z => by rw [h1] at z; cases z⟩
theorem OutC.up {H Hi H2 : Hp} {c : V} {d : Dc} (o : OutC H Hi c d) (k : ∀ a, c = .ref a → ∀ u, Hi a = some u → H2 a = some u) : OutC H H2 c d := by
  cases d with
  | leaf v => exact o
  | row b xs => obtain ⟨a, e, h1, h2⟩ := o; exact ⟨a, e, k a e _ h1, h2⟩
  | tab b ks xs => obtain ⟨a, e, h1, h2⟩ := o; exact ⟨a, e, k a e _ h1, h2⟩
theorem CpInv.step {H Hi H2 : Hp} {L a : Addr} {tv : V} {d node : Dc} {ps : List (V × Dc)} (C : CpInv H Hi L tv d (ps ++ [(.ref a, node)])) (cp : List (V × Dc))
    (keep : ∀ b o, b ≠ a → b ≠ L → Hi b = some o → H2 b = some o) (eL : H2 L = some (.lst ((ps ++ cp).map (·.1)))) (out : ∀ p ∈ cp, OutC H H2 p.1 p.2) (src : ∀ p ∈ cp, p.2.At H ∧ p.2.slim) (rn : (roots cp).Nodup) (rf : ∀ c ∈ roots cp, Hi c = none)
    (ha2 : H2 a ≠ none) (own : ∀ ob u, H2 a ≠ some (.frz ob u))
    (build : ∀ (ec : List Dc) (H' : Hp), DoneL cp ec → Dc.AtL H' ec → H' a = H2 a → ∃ e : Dc, e.val = .ref a ∧ Dc.like node e ∧ e.At H' ∧ e.addrs.Perm (a :: Dc.addrsL ec)) : CpInv H H2 L tv d (ps ++ cp) := by
  have rt : roots (ps ++ [(V.ref a, node)]) = roots ps ++ [a] := by rw [roots_append]; rfl
  have nd := C.nd
  rw [rt] at nd
  obtain ⟨nd1, _, nd3⟩ := List.nodup_append.mp nd
  have nLr := C.nLr
  rw [rt] at nLr
  have aL : a ≠ L := fun z => nLr (by rw [← z]; simp)
  have har : a ∉ roots ps := fun z => nd3 a z a (by simp) rfl
  have Ha := (C.out (.ref a, node) (by simp)).root rfl
  have pr : ∀ c ∈ roots ps, c ≠ a ∧ c ≠ L ∧ Hi c ≠ none := fun c hc => by
    obtain ⟨p, hp, e⟩ := roots_mem.mp hc
    refine ⟨fun z => har (by rw [← z]; exact hc), fun z => nLr (by rw [← z]; simp [hc]), ?_⟩
    exact ((C.out p (by simp [hp])).root e).1
  refine ⟨fun b o e => ?_, C.nL, eL, fun p hp => ?_, fun p hp => ?_, ?_, ?_, fun es H' dn fr z kp => ?_⟩
  · exact keep b o (ne_of_none e Ha.2.1) (ne_of_none e C.nL) (C.same b o e)
  · rcases List.mem_append.mp hp with hp | hp
    · refine (C.out p (by simp [hp])).up fun c e u h => ?_
      have := pr c (roots_mem.mpr ⟨p, hp, e⟩)
      exact keep c u this.1 this.2.1 h
    · exact out p hp
  · rcases List.mem_append.mp hp with hp | hp
    · exact C.src p (by simp [hp])
    · exact src p hp
  · rw [roots_append]
    refine List.nodup_append.mpr ⟨nd1, rn, fun x hx y hy e => ?_⟩
    subst e
    exact (pr x hx).2.2 (rf x hy)
  · rw [roots_append]
    intro h
    rcases List.mem_append.mp h with h | h
    · exact nLr (by simp [h])
    · have := rf L h
      rw [C.eL] at this
      cases this
  · obtain ⟨er, ec, rfl, d1, d2⟩ := dn.split
    have aN : a ∉ roots (ps ++ cp) := by
      rw [roots_append]
      intro h
      rcases List.mem_append.mp h with h | h
      · exact har h
      · exact Ha.1 (rf a h)
    have H'a : H' a = H2 a := by
      cases e : H2 a with
      | none => exact absurd e ha2
      | some o => exact kp a o aL aN e
    obtain ⟨at1, at2⟩ := (Dc.AtL_append _ _).mp fr.at_
    obtain ⟨e, ev, el, ea, ep⟩ := build ec H' d2 at2 H'a
    have aout : a ∉ Dc.addrsL (er ++ ec) := fun h => by
      rcases z a h with h | h
      · exact ha2 h
      · exact aN h
    have eadd : Dc.addrsL (er ++ [e]) = Dc.addrsL er ++ e.addrs := by rw [Dc.addrsL_append]; simp [Dc.addrsL]
    have mem : ∀ c, c ∈ Dc.addrsL (er ++ [e]) → c = a ∨ c ∈ Dc.addrsL (er ++ ec) := fun c hc => by
      rw [eadd] at hc
      rw [Dc.addrsL_append]
      rcases List.mem_append.mp hc with hc | hc
      · exact .inr (List.mem_append_left _ hc)
      · rcases List.mem_cons.mp (ep.mem_iff.mp hc) with hc | hc
        · exact .inl hc
        · exact .inr (List.mem_append_right _ hc)
    have fr2 : FreshL H H' (er ++ [e]) := by
      refine ⟨fr.same, (Dc.AtL_append _ _).mpr ⟨at1, by simp only [Dc.AtL]; exact ⟨ea, trivial⟩⟩, ?_, fun c hc => ?_, fun c hc => ?_⟩
      · have n0 := fr.nd
        rw [Dc.addrsL_append] at n0 aout
        have : (Dc.addrsL er ++ (a :: Dc.addrsL ec)).Nodup := by
          obtain ⟨x1, x2, x3⟩ := List.nodup_append.mp n0
          refine List.nodup_append.mpr ⟨x1, List.nodup_cons.mpr ⟨fun h => aout (List.mem_append_right _ h), x2⟩, fun x hx y hy exy => ?_⟩
          subst exy
          rcases List.mem_cons.mp hy with hy | hy
          · exact aout (List.mem_append_left _ (by rw [← hy]; exact hx))
          · exact x3 x hx x hy rfl
        rw [eadd]
        exact ((List.Perm.append_left _ ep).nodup_iff).mpr this
      · rcases mem c hc with rfl | hc
        · intro ob u h; rw [H'a] at h; exact own ob u h
        · exact fr.own c hc
      · rcases mem c hc with rfl | hc
        · exact Ha.2.1
        · exact fr.new c hc
    refine C.wand (er ++ [e]) H' (d1.app (by simp only [DoneL]; exact ⟨ev, el, trivial⟩)) fr2 (fun c hc => ?_) (fun b o hb hr h => ?_)
    · rw [rt]
      rcases mem c hc with rfl | hc
      · exact .inr (by simp)
      · rcases z c hc with h | h
        · left
          cases q : Hi c with
          | none => rfl
          | some o =>
            have cna : c ≠ a := fun w => ha2 (by rw [← w]; exact h)
            have cnL : c ≠ L := fun w => by rw [w, eL] at h; cases h
            rw [keep c o cna cnL q] at h
            cases h
        · rw [roots_append] at h
          rcases List.mem_append.mp h with h | h
          · exact .inr (by simp [h])
          · exact .inl (rf c h)
    · rw [rt] at hr
      have hra : b ≠ a := fun w => hr (by simp [w])
      refine kp b o hb ?_ (keep b o hra hb h)
      rw [roots_append]
      intro w
      rcases List.mem_append.mp w with w | w
      · exact hr (by simp [w])
      · rw [rf b w] at h; cases h
theorem CpInv.start {H Hi : Hp} {L : Addr} {d : Dc} {tv : V} (s : Same H Hi) (nL : H L = none) (eL : Hi L = some (.lst [tv])) (o : OutC H Hi tv d) (h : d.At H) (sl : d.slim) (ne : tv ≠ .ref L) : CpInv H Hi L tv d [(tv, d)] := by
  refine ⟨s, nL, eL, fun p hp => by rw [List.mem_singleton.mp hp]; exact o, fun p hp => by rw [List.mem_singleton.mp hp]; exact ⟨h, sl⟩, ?_, ?_, fun es H' dn fr z kp => ?_⟩
  · cases tv <;> first | exact List.nodup_nil | exact List.nodup_cons.mpr ⟨(fun h => nomatch h), List.nodup_nil⟩
  · intro hh
    obtain ⟨p, hp, e⟩ := roots_mem.mp hh
    rw [List.mem_singleton.mp hp] at e
    exact ne e
  · cases es with
    | nil => simp [DoneL] at dn
    | cons e r =>
      cases r with
      | cons _ _ => simp [DoneL] at dn
      | nil =>
        simp only [DoneL] at dn
        have ea : Dc.addrsL [e] = e.addrs := by simp [Dc.addrsL]
        have fa := fr.at_
        simp only [Dc.AtL] at fa
        have fn := fr.nd
        rw [ea] at fn
        exact ⟨e, dn.1, dn.2.1, fr.same, fa.1, fn, fun a ha => fr.own a (by rw [ea]; exact ha), fun a ha => fr.new a (by rw [ea]; exact ha)⟩
theorem CpInv.done {H Hi : Hp} {L : Addr} {d : Dc} {tv : V} (C : CpInv H Hi L tv d []) : ∃ e : Dc, e.val = tv ∧ Dc.like d e ∧ Fresh H Hi e :=
  C.wand [] Hi trivial (.nil C.same) (fun c hc => (nomatch hc)) fun b o _ _ h => h
theorem CpInv.leaf {H Hi H2 : Hp} {L : Addr} {d : Dc} {tv v : V} {ps : List (V × Dc)} (C : CpInv H Hi L tv d (ps ++ [(v, .leaf v)])) (keep : ∀ b o, b ≠ L → Hi b = some o → H2 b = some o) (eL : H2 L = some (.lst (ps.map (·.1)))) : CpInv H H2 L tv d ps := by
  have lv : Dc.Lf v := (show v = v ∧ Dc.Lf v from C.out (v, .leaf v) (by simp)).2
  have rt : roots (ps ++ [(v, Dc.leaf v)]) = roots ps := by
    rw [roots_append]
    rcases lv with ⟨i, rfl⟩ | ⟨x, rfl, _⟩ <;> simp [roots, rootOf]
  have nd := C.nd
  have nLr := C.nLr
  rw [rt] at nd nLr
  refine ⟨fun b o e => keep b o (ne_of_none e C.nL) (C.same b o e), C.nL, eL, fun p hp => ?_, fun p hp => C.src p (by simp [hp]), nd, nLr, fun es H' dn fr z kp => ?_⟩
  · refine (C.out p (by simp [hp])).up fun c e u h => keep c u (fun w => nLr ?_) h
    rw [← w]
    exact roots_mem.mpr ⟨p, hp, e⟩
  · have ea : Dc.addrsL (es ++ [.leaf v]) = Dc.addrsL es := by rw [Dc.addrsL_append]; simp [Dc.addrsL, Dc.addrs]
    refine C.wand (es ++ [.leaf v]) H' (dn.app (by simp [DoneL, Dc.val, Dc.like])) ⟨fr.same, (Dc.AtL_append _ _).mpr ⟨fr.at_, by simp only [Dc.AtL, Dc.At]; exact ⟨lv, trivial⟩⟩, by rw [ea]; exact fr.nd, by rw [ea]; exact fr.own, by rw [ea]; exact fr.new⟩ (fun c hc => ?_) (fun b o hb hr h => ?_)
    · rw [ea] at hc
      rw [rt]
      rcases z c hc with h | h
      · left
        cases q : Hi c with
        | none => rfl
        | some o =>
          have cnL : c ≠ L := fun w => by rw [w, eL] at h; cases h
          rw [keep c o cnL q] at h
          cases h
      · exact .inr h
    · rw [rt] at hr
      exact kp b o hb hr (keep b o hb h)
def OuterQ (H : Hp) (Q : VK) : Dc → Prop
  | .leaf v => Q v H
  | .row _ xs => ∀ p, H p = none → Q (.ref p) (upd H p (.lst (xs.map Dc.val)))
  | .tab _ ks xs => ∀ p, H p = none → Q (.ref p) (upd H p (.dK (Dc.kvs ks xs)))
inductive spOuterI (vs : List V) (H : Hp) (Q : VK) (u3_ : XK) : Prop
  | mk (d : Dc) (x0 : vs = [d.val]) (x1 : d.At H) (x2 : OuterQ H Q d) : spOuterI  vs H Q u3_
inductive spCopyOfI (vs : List V) (H : Hp) (Q : VK) (u3_ : XK) : Prop
  | mk (d : Dc) (x0 : vs = [d.val]) (x1 : d.At H) (x2 : d.slim) (x3 : d.size ≤ 900) (x4 : ∀ (d' : Dc) (H' : Hp), Fresh H H' d' → Dc.like d d' → Q d'.val H') : spCopyOfI  vs H Q u3_
theorem OuterQ.of {H0 H : Hp} {Q : VK} {d : Dc} (s : Same H0 H) (h : d.At H) (k : ∀ tv Hi, Same H Hi → OutC H0 Hi tv d → (∀ a, tv = .ref a → H a = none) → Q tv Hi) : OuterQ H Q d := by
  cases d with
  | leaf v =>
    refine k v H (Same.refl H) ⟨rfl, h⟩ fun a e => ?_
    rcases (show Dc.Lf v from h) with ⟨i, rfl⟩ | ⟨x, rfl, _⟩ <;> cases e
  | row b xs => exact fun p hp => k _ _ (Same.new hp) ⟨p, rfl, upd_same, s.free hp⟩ fun a e => by cases e; exact hp
  | tab b ks xs => exact fun p hp => k _ _ (Same.new hp) ⟨p, rfl, upd_same, s.free hp⟩ fun a e => by cases e; exact hp
end L2
namespace L2
open PySem PySem.Spec PyProof.Rows
theorem zip_snoc {cs : List V} {xs : List Dc} {c : V} {x : Dc} {i : Nat} (l : cs.length = i) (hx : xs[i]? = some x) : (cs ++ [c]).zip xs = cs.zip xs ++ [(c, x)] := by
  induction cs generalizing xs i with
  | nil =>
    cases xs with
    | nil => simp at hx
    | cons y t =>
      simp at l
      subst l
      simp at hx
      subst hx
      simp
  | cons z r ih =>
    cases xs with
    | nil => simp at hx
    | cons y t =>
      cases i with
      | zero => simp at l
      | succ i =>
        simp only [List.cons_append, List.zip_cons_cons]
        rw [ih (by simpa using l) (by simpa using hx)]
end L2

set_option Elab.async false
set_option linter.all false
set_option maxRecDepth 100000
set_option maxHeartbeats 4000000
namespace L2
open PySem PySem.Spec PyProof.Rows
namespace Dc
inductive Eqv : Dc → Dc → Prop where
  | leaf (v : V) : Eqv (leaf v) (leaf v)
  | row {a b : Addr} {xs ys : List Dc} (l : xs.length = ys.length) (h : ∀ (i : Nat) x y, xs[i]? = some x → ys[i]? = some y → Eqv x y) : Eqv (row a xs) (row b ys)
  | tab {a b : Addr} {ks ls : List Str} {xs ys : List Dc} (p : ks.Perm ls) (h : ∀ k x y, (ks.zip xs).lookup k = some x → (ls.zip ys).lookup k = some y → Eqv x y) : Eqv (tab a ks xs) (tab b ls ys)
theorem zip_like {ks : List Str} : ∀ {xs ys : List Dc}, likeL xs ys → ∀ {k : Str} {x y : Dc}, (ks.zip xs).lookup k = some x → (ks.zip ys).lookup k = some y → ∃ i : Nat, xs[i]? = some x ∧ ys[i]? = some y := by
  induction ks with
  | nil => intro xs ys _ k x y h; simp at h
  | cons z r ih =>
    intro xs ys hl k x y h1 h2
    cases xs with
    | nil => simp at h1
    | cons x0 xs =>
      cases ys with
      | nil => simp at h2
      | cons y0 ys =>
        simp only [likeL] at hl
        simp only [List.zip_cons_cons, List.lookup_cons] at h1 h2
        by_cases e : k = z
        · subst e
          simp at h1 h2
          exact ⟨0, by simp [h1], by simp [h2]⟩
        · have : (k == z) = false := by simpa using e
          rw [this] at h1 h2
          obtain ⟨i, g1, g2⟩ := ih hl.2 h1 h2
          exact ⟨i + 1, by simpa using g1, by simpa using g2⟩
mutual
theorem like_eqv : ∀ d e : Dc, like d e → Eqv d e
  | leaf v, e, h => by
    cases e with
    | leaf w => have : v = w := by simpa [like] using h
                subst this; exact .leaf v
    | _ => simp [like] at h
  | row a xs, e, h => by
    cases e with
    | row b ys =>
      simp only [like] at h
      exact .row (likeL_length h) (likeL_eqv xs ys h)
    | _ => simp [like] at h
  | tab a ks xs, e, h => by
    cases e with
    | tab b ls ys =>
      simp only [like] at h
      obtain ⟨rfl, h⟩ := h
      refine .tab (.refl _) fun k x y h1 h2 => ?_
      obtain ⟨i, g1, g2⟩ := zip_like h h1 h2
      exact likeL_eqv xs ys h i x y g1 g2
    | _ => simp [like] at h
theorem likeL_eqv : ∀ xs ys : List Dc, likeL xs ys → ∀ (i : Nat) x y, xs[i]? = some x → ys[i]? = some y → Eqv x y
  | [], _, _, i, x, y, h, _ => by simp at h
  | _ :: _, [], h, _, _, _, _, _ => by simp [likeL] at h
  | x0 :: r, y0 :: t, h, 0, x, y, h1, h2 => by
    simp only [likeL] at h
    simp at h1 h2
    subst h1 h2
    exact like_eqv _ _ h.1
  | x0 :: r, y0 :: t, h, i + 1, x, y, h1, h2 => by
    simp only [likeL] at h
    exact likeL_eqv r t h.2 i x y (by simpa using h1) (by simpa using h2)
end
theorem Eqv.refl (d : Dc) : Eqv d d := like_eqv d d (like_refl d)
theorem Eqv.symm {d e : Dc} (h : Eqv d e) : Eqv e d := by
  induction h with
  | leaf v => exact .leaf v
  | row l _ ih => exact .row l.symm fun i x y h1 h2 => ih i y x h2 h1
  | tab p _ ih => exact .tab p.symm fun k x y h1 h2 => ih k y x h2 h1
inductive Wf : Dc → Prop where
  | leaf (v : V) : Wf (leaf v)
  | row {a : Addr} {xs : List Dc} (h : ∀ x ∈ xs, Wf x) : Wf (row a xs)
  | tab {a : Addr} {ks : List Str} {xs : List Dc} (l : ks.length = xs.length) (n : ks.Nodup) (h : ∀ x ∈ xs, Wf x) : Wf (tab a ks xs)
mutual
theorem at_wf {H : Hp} : ∀ d : Dc, d.At H → d.Wf
  | leaf v, _ => .leaf v
  | row a xs, h => by simp only [At] at h; exact .row (atL_wf xs h.2)
  | tab a ks xs, h => by simp only [At] at h; exact .tab h.2.1 h.2.2.1 (atL_wf xs h.2.2.2)
theorem atL_wf {H : Hp} : ∀ xs : List Dc, AtL H xs → ∀ x ∈ xs, x.Wf
  | [], _, x, hx => nomatch hx
  | y :: r, h, x, hx => by
    simp only [AtL] at h
    have h1 := at_wf y h.1
    have h2 := atL_wf r h.2
    rcases List.mem_cons.mp hx with e | hx
    · rw [e]; exact h1
    · exact h2 x hx
end
theorem Eqv.trans {d e f : Dc} (we : e.Wf) (h : Eqv d e) (h' : Eqv e f) : Eqv d f := by
  induction h generalizing f with
  | leaf v => exact h'
  | @row a b xs ys l hx ih =>
    cases h' with
    | @row _ c _ zs l' hy =>
      cases we with
      | row wy =>
        refine .row (l.trans l') fun i x z h1 h2 => ?_
        obtain ⟨y, h3⟩ : ∃ y, ys[i]? = some y := ⟨_, List.getElem?_eq_getElem (by rw [← l]; exact (List.getElem?_eq_some_iff.mp h1).1)⟩
        exact ih i x y h1 h3 (wy y (List.mem_of_getElem? h3)) (hy i y z h3 h2)
  | @tab a b ks ls xs ys p hx ih =>
    cases h' with
    | @tab _ c _ ms _ zs p' hy =>
      cases we with
      | tab wl wn wy =>
        refine .tab (p.trans p') fun k x z h1 h2 => ?_
        obtain ⟨y, h3, hm⟩ := lookup_of_mem wl (p.mem_iff.mp (mem_zip_lookup h1).1)
        exact ih k x y h1 h3 (wy y hm) (hy k y z h3 h2)
theorem szAt_map {ks : List Str} {xs : List Dc} (h : ks.length = xs.length) (n : ks.Nodup) {k : Str} {x : Dc} (e : (ks.zip xs).lookup k = some x) : szAt ks xs k = x.size := by simp [szAt, e]
theorem Eqv.size {d e : Dc} (wd : d.Wf) (we : e.Wf) (h : Eqv d e) : d.size = e.size := by
  induction h with
  | leaf v => rfl
  | @row a b xs ys l hx ih =>
    cases wd with
    | row wx =>
      cases we with
      | row wy =>
        simp only [Dc.size]
        congr 1
        have gen : ∀ (xs ys : List Dc), xs.length = ys.length → (∀ (i : Nat) x y, xs[i]? = some x → ys[i]? = some y → x.size = y.size) → sizeL xs = sizeL ys := by
          intro xs
          induction xs with
          | nil => intro ys h _; cases ys with | nil => rfl | cons _ _ => simp at h
          | cons x r ih =>
            intro ys h hh
            cases ys with
            | nil => simp at h
            | cons y t =>
              simp only [sizeL]
              rw [hh 0 x y rfl rfl, ih t (by simpa using h) fun i a b h1 h2 => hh (i + 1) a b (by simpa using h1) (by simpa using h2)]
        exact gen xs ys l fun i x y h1 h2 => ih i x y h1 h2 (wx x (List.mem_of_getElem? h1)) (wy y (List.mem_of_getElem? h2))
  | @tab a b ks ls xs ys p hx ih =>
    cases wd with
    | tab wl wn wx =>
      cases we with
      | tab wl' wn' wy =>
        simp only [Dc.size]
        congr 1
        rw [← szAt_perm wl wn p.symm, ← szAt_sum wl' wn']
        congr 1
        refine List.map_congr_left fun k hk => ?_
        obtain ⟨y, h2, hm2⟩ := lookup_of_mem wl' hk
        obtain ⟨x, h1, hm1⟩ := lookup_of_mem wl (p.mem_iff.mpr hk)
        rw [szAt_map wl wn h1, szAt_map wl' wn' h2]
        exact ih k x y h1 h2 (wx x hm1) (wy y hm2)
def ix (ks : List Str) (k : Str) : Nat := ks.findIdx (· == k)
theorem ix_get {ks : List Str} {k : Str} (h : k ∈ ks) : ks[ix ks k]? = some k := by
  have hl : ix ks k < ks.length := List.findIdx_lt_length_of_exists ⟨k, h, by simp⟩
  rw [List.getElem?_eq_getElem hl]
  have h2 : (ks[ix ks k] == k) = true := List.findIdx_getElem (w := hl)
  exact congrArg some (eq_of_beq h2)
theorem lookup_ix {ks : List Str} {xs : List Dc} {k : Str} {x : Dc} (l : ks.length = xs.length) (n : ks.Nodup) (h : (ks.zip xs).lookup k = some x) : xs[ix ks k]? = some x := by
  have hk := (mem_zip_lookup h).1
  have e := ix_get hk
  have hi := (List.getElem?_eq_some_iff.mp e).1
  obtain ⟨y, hy⟩ : ∃ y, xs[ix ks k]? = some y := ⟨_, List.getElem?_eq_getElem (by rw [← l]; exact hi)⟩
  have := zip_at ks xs _ n e hy
  rw [h] at this
  cases this
  exact hy
def setP : Dc → List V → Dc → Dc
  | _, [], n => n
  | row a xs, .int i :: r, n => row a (match xs[i.toNat]? with | some x => xs.set i.toNat (setP x r n) | none => xs)
  | tab a ks xs, .str k :: r, n => tab a ks (match xs[ix ks k]? with | some x => xs.set (ix ks k) (setP x r n) | none => xs)
  | d, _ :: _, _ => d
theorem setP_row {a : Addr} {xs : List Dc} {i : Nat} {x : Dc} (h : xs[i]? = some x) (r : List V) (n : Dc) : setP (row a xs) (.int (i : Int) :: r) n = row a (xs.set i (setP x r n)) := by
  simp only [setP, Int.toNat_natCast, h]
theorem setP_tab {a : Addr} {ks : List Str} {xs : List Dc} {k : Str} {x : Dc} (h : xs[ix ks k]? = some x) (r : List V) (n : Dc) : setP (tab a ks xs) (.str k :: r) n = tab a ks (xs.set (ix ks k) (setP x r n)) := by
  simp only [setP, h]
theorem sub_cons {d : Dc} {z : V} {r : List V} {e : Dc} (h : d.sub (z :: r) = some e) : (∃ a xs i x, d = row a xs ∧ z = .int ((i : Nat) : Int) ∧ xs[i]? = some x ∧ x.sub r = some e) ∨ ∃ a ks xs k x, d = tab a ks xs ∧ z = .str k ∧ (ks.zip xs).lookup k = some x ∧ x.sub r = some e := by
  cases d with
  | leaf v => simp [sub] at h
  | row a xs =>
    cases z with
    | int i =>
      simp only [sub] at h
      by_cases h0 : 0 ≤ i
      · rw [if_pos h0] at h
        cases hx : xs[i.toNat]? with
        | none => rw [hx] at h; simp at h
        | some x => rw [hx] at h; exact .inl ⟨a, xs, i.toNat, x, rfl, by rw [Int.toNat_of_nonneg h0], hx, h⟩
      · rw [if_neg h0] at h; simp at h
    | _ => simp [sub] at h
  | tab a ks xs =>
    cases z with
    | str k =>
      simp only [sub] at h
      cases hx : (ks.zip xs).lookup k with
      | none => rw [hx] at h; simp at h
      | some x => rw [hx] at h; exact .inr ⟨a, ks, xs, k, x, rfl, rfl, hx, h⟩
    | _ => simp [sub] at h
theorem sub_nil (d : Dc) : d.sub [] = some d := by cases d <;> rfl
theorem sub_row {a : Addr} {xs : List Dc} {i : Nat} {x : Dc} (h : xs[i]? = some x) (r : List V) : (row a xs).sub (.int (i : Int) :: r) = x.sub r := by
  simp only [sub]
  rw [if_pos (by omega), Int.toNat_natCast, h]
  rfl
theorem sub_tab {a : Addr} {ks : List Str} {xs : List Dc} {k : Str} {x : Dc} (h : (ks.zip xs).lookup k = some x) (r : List V) : (tab a ks xs).sub (.str k :: r) = x.sub r := by
  simp only [sub, h]
  rfl
theorem PartOf.sub {us : List V} : ∀ {d e : Dc}, d.sub us = some e → PartOf e d := by
  induction us with
  | nil => intro d e h; rw [sub_nil] at h; cases h; exact .refl d
  | cons z r ih =>
    intro d e h
    rcases sub_cons h with ⟨a, xs, i, x, rfl, rfl, hx, h'⟩ | ⟨a, ks, xs, k, x, rfl, rfl, hx, h'⟩
    · exact (ih h').trans (.row (List.mem_of_getElem? hx))
    · exact (ih h').trans (.tab (mem_zip_lookup hx).2)
theorem set_split {xs : List Dc} {i : Nat} {x : Dc} (h : xs[i]? = some x) : ∃ l r, xs = l ++ x :: r ∧ ∀ y, xs.set i y = l ++ y :: r := by
  have hi := (List.getElem?_eq_some_iff.mp h).1
  have hx := (List.getElem?_eq_some_iff.mp h).2
  refine ⟨xs.take i, xs.drop (i + 1), ?_, fun y => List.set_eq_take_append_cons_drop .. |>.trans (if_pos hi)⟩
  rw [← hx, List.getElem_cons_drop, List.take_append_drop]
def room : Dc → V → Bool
  | row _ xs, .int i => decide (0 ≤ i) && decide (i ≤ (xs.length : Int))
  | tab _ ks _, .str k => !ks.contains k
  | _, _ => false
def insN : Dc → V → Dc → Dc
  | row a xs, .int i, v => row a (xs.take i.toNat ++ v :: xs.drop i.toNat)
  | tab a ks xs, .str k, v => tab a (ks ++ [k]) (xs ++ [v])
  | d, _, _ => d
def delN : Dc → V → Dc
  | row a xs, .int i => row a (xs.eraseIdx i.toNat)
  | tab a ks xs, .str k => tab a (ks.eraseIdx (ix ks k)) (xs.eraseIdx (ix ks k))
  | d, _ => d
theorem sub_one {d : Dc} {z : V} {x : Dc} (h : d.sub [z] = some x) : (∃ a xs i, d = row a xs ∧ z = .int ((i : Nat) : Int) ∧ xs[i]? = some x) ∨ ∃ a ks xs k, d = tab a ks xs ∧ z = .str k ∧ (ks.zip xs).lookup k = some x := by
  rcases sub_cons h with ⟨a, xs, i, y, h1, h2, h3, h4⟩ | ⟨a, ks, xs, k, y, h1, h2, h3, h4⟩
  · rw [sub_nil] at h4; cases h4; exact .inl ⟨a, xs, i, h1, h2, h3⟩
  · rw [sub_nil] at h4; cases h4; exact .inr ⟨a, ks, xs, k, h1, h2, h3⟩
theorem room_cases {e : Dc} {z : V} (h : e.room z = true) : (∃ a xs i, e = row a xs ∧ z = .int ((i : Nat) : Int) ∧ i ≤ xs.length) ∨ ∃ a ks xs k, e = tab a ks xs ∧ z = .str k ∧ k ∉ ks := by
  cases e with
  | leaf v => cases z <;> simp [room] at h
  | row a xs =>
    cases z with
    | int i =>
      simp only [room, Bool.and_eq_true, decide_eq_true_eq] at h
      exact .inl ⟨a, xs, i.toNat, rfl, by rw [Int.toNat_of_nonneg h.1], by omega⟩
    | _ => simp [room] at h
  | tab a ks xs =>
    cases z with
    | str k =>
      simp only [room, Bool.not_eq_true', List.contains_eq_mem, decide_eq_false_iff_not] at h
      exact .inr ⟨a, ks, xs, k, rfl, rfl, h⟩
    | _ => simp [room] at h
theorem Eqv.sub {us : List V} : ∀ {d d' e : Dc}, d.Wf → d'.Wf → Eqv d d' → d.sub us = some e → ∃ e', d'.sub us = some e' ∧ Eqv e e' := by
  induction us with
  | nil => intro d d' e _ _ q h; rw [sub_nil] at h; cases h; exact ⟨d', sub_nil d', q⟩
  | cons z r ih =>
    intro d d' e w w' q h
    rcases sub_cons h with ⟨a, xs, i, x, rfl, rfl, hx, h'⟩ | ⟨a, ks, xs, k, x, rfl, rfl, hx, h'⟩
    · cases q with
      | @row _ b _ ys l hh =>
        cases w with
        | row wx =>
          cases w' with
          | row wy =>
            obtain ⟨y, hy⟩ : ∃ y, ys[i]? = some y := ⟨_, List.getElem?_eq_getElem (by rw [← l]; exact (List.getElem?_eq_some_iff.mp hx).1)⟩
            obtain ⟨e', g1, g2⟩ := ih (wx x (List.mem_of_getElem? hx)) (wy y (List.mem_of_getElem? hy)) (hh i x y hx hy) h'
            exact ⟨e', by rw [sub_row hy]; exact g1, g2⟩
    · cases q with
      | @tab _ b _ ls _ ys p hh =>
        cases w with
        | tab wl wn wx =>
          cases w' with
          | tab wl' wn' wy =>
            obtain ⟨y, hy, hm⟩ := lookup_of_mem wl' (p.mem_iff.mp (mem_zip_lookup hx).1)
            obtain ⟨e', g1, g2⟩ := ih (wx x (mem_zip_lookup hx).2) (wy y hm) (hh k x y hx hy) h'
            exact ⟨e', by rw [sub_tab hy]; exact g1, g2⟩
theorem lookup_set {ks : List Str} {xs : List Dc} {k k' : Str} {x y z : Dc} (l : ks.length = xs.length) (n : ks.Nodup) (hx : (ks.zip xs).lookup k = some x) (h : (ks.zip (xs.set (ix ks k) y)).lookup k' = some z) : (k' = k ∧ z = y) ∨ (k' ≠ k ∧ (ks.zip xs).lookup k' = some z) := by
  have l2 : ks.length = (xs.set (ix ks k) y).length := by rw [List.length_set]; exact l
  have hz := lookup_ix l2 n h
  have hk := (mem_zip_lookup hx).1
  have hk' := (mem_zip_lookup h).1
  by_cases e : k' = k
  · subst e
    rw [List.getElem?_set_self (List.getElem?_eq_some_iff.mp (lookup_ix l n hx)).1] at hz
    exact .inl ⟨rfl, (Option.some.inj hz).symm⟩
  · right
    refine ⟨e, ?_⟩
    have hne : ix ks k ≠ ix ks k' := fun w => e (by have h1 := ix_get hk; have h2 := ix_get hk'; rw [w, h2] at h1; exact Option.some.inj h1)
    rw [List.getElem?_set_ne hne] at hz
    exact zip_at ks xs _ n (ix_get hk') hz
theorem Eqv.setP {us : List V} : ∀ {d d' e n n' : Dc}, d.Wf → d'.Wf → Eqv d d' → d.sub us = some e → Eqv n n' → Eqv (Dc.setP d us n) (Dc.setP d' us n') := by
  induction us with
  | nil => intro d d' e n n' _ _ _ _ q; cases d <;> cases d' <;> exact q
  | cons z r ih =>
    intro d d' e n n' w w' q h qn
    rcases sub_cons h with ⟨a, xs, i, x, rfl, rfl, hx, h'⟩ | ⟨a, ks, xs, k, x, rfl, rfl, hx, h'⟩
    · cases q with
      | @row _ b _ ys l hh =>
        cases w with
        | row wx =>
          cases w' with
          | row wy =>
            obtain ⟨y, hy⟩ : ∃ y, ys[i]? = some y := ⟨_, List.getElem?_eq_getElem (by rw [← l]; exact (List.getElem?_eq_some_iff.mp hx).1)⟩
            rw [setP_row hx, setP_row hy]
            refine .row (by rw [List.length_set, List.length_set]; exact l) fun j x1 y1 h1 h2 => ?_
            by_cases hij : i = j
            · subst hij
              rw [List.getElem?_set_self (List.getElem?_eq_some_iff.mp hx).1] at h1
              rw [List.getElem?_set_self (List.getElem?_eq_some_iff.mp hy).1] at h2
              cases h1; cases h2
              exact ih (wx x (List.mem_of_getElem? hx)) (wy y (List.mem_of_getElem? hy)) (hh i x y hx hy) h' qn
            · rw [List.getElem?_set_ne hij] at h1 h2
              exact hh j x1 y1 h1 h2
    · cases q with
      | @tab _ b _ ls _ ys p hh =>
        cases w with
        | tab wl wn wx =>
          cases w' with
          | tab wl' wn' wy =>
            obtain ⟨y, hy, hm⟩ := lookup_of_mem wl' (p.mem_iff.mp (mem_zip_lookup hx).1)
            have hx' := lookup_ix wl wn hx
            have hy' := lookup_ix wl' wn' hy
            rw [setP_tab hx', setP_tab hy']
            refine .tab p fun k2 x1 y1 h1 h2 => ?_
            rcases lookup_set wl wn hx h1 with ⟨rfl, rfl⟩ | ⟨ne, g1⟩
            · rcases lookup_set wl' wn' hy h2 with ⟨_, rfl⟩ | ⟨ne, _⟩
              · exact ih (wx x (mem_zip_lookup hx).2) (wy y hm) (hh k2 x y hx hy) h' qn
              · exact absurd rfl ne
            · rcases lookup_set wl' wn' hy h2 with ⟨e2, _⟩ | ⟨_, g2⟩
              · exact absurd e2 ne
              · exact hh k2 x1 y1 g1 g2
end Dc
end L2

set_option Elab.async false
set_option linter.all false
set_option maxRecDepth 100000
set_option maxHeartbeats 4000000
namespace L2
open PySem PySem.Spec PyProof.Rows
theorem erase_perm {α : Type} {l : List α} {i : Nat} (h : i < l.length) : (l[i] :: l.eraseIdx i).Perm l := by
  have e4 : l = l.take i ++ l[i] :: l.drop (i + 1) := by rw [List.getElem_cons_drop, List.take_append_drop]
  rw [List.eraseIdx_eq_take_drop_succ]
  exact (List.perm_middle.symm).trans (by rw [← e4])
namespace Dc
theorem zip_erase {ks : List Str} {xs : List Dc} (l : ks.length = xs.length) (n : ks.Nodup) {k k' : Str} (hk : k ∈ ks) : ((ks.eraseIdx (ix ks k)).zip (xs.eraseIdx (ix ks k))).lookup k' = if k' = k then none else (ks.zip xs).lookup k' := by
  induction ks generalizing xs with
  | nil => cases hk
  | cons y r ih =>
    cases xs with
    | nil => simp at l
    | cons x t =>
      obtain ⟨n1, n2⟩ := List.nodup_cons.mp n
      by_cases e : y = k
      · subst e
        have e0 : ix (y :: r) y = 0 := by simp [ix, List.findIdx_cons]
        rw [e0]
        simp only [List.eraseIdx_zero, List.tail_cons, List.zip_cons_cons, List.lookup_cons]
        by_cases ek : k' = y
        · subst ek
          rw [if_pos rfl]
          cases q : (r.zip t).lookup k' with
          | none => rfl
          | some z => exact absurd (mem_zip_lookup q).1 n1
        · rw [if_neg ek]
          have : (k' == y) = false := by simpa using ek
          rw [this]
      · have hk' : k ∈ r := (List.mem_cons.mp hk).resolve_left (fun z => e z.symm)
        have e0 : ix (y :: r) k = ix r k + 1 := by
          have : (y == k) = false := by simpa using e
          simp [ix, List.findIdx_cons, this]
        rw [e0]
        simp only [List.eraseIdx_cons_succ, List.zip_cons_cons, List.lookup_cons]
        by_cases ek : k' = y
        · subst ek
          rw [if_neg e]
          simp
        · have : (k' == y) = false := by simpa using ek
          rw [this]
          exact ih (by simpa using l) n2 hk'
theorem ix_lt {ks : List Str} {k : Str} (h : k ∈ ks) : ix ks k < ks.length := (List.getElem?_eq_some_iff.mp (ix_get h)).1
theorem zip_snoc {ks : List Str} {xs : List Dc} (l : ks.length = xs.length) {k k' : Str} {v : Dc} (hk : k ∉ ks) : ((ks ++ [k]).zip (xs ++ [v])).lookup k' = if k' = k then some v else (ks.zip xs).lookup k' := by
  rw [List.zip_append l]
  induction ks generalizing xs with
  | nil =>
    cases xs with
    | cons _ _ => simp at l
    | nil =>
      by_cases e : k' = k
      · subst e; simp
      · have : (k' == k) = false := by simpa using e
        simp [List.lookup_cons, this, e]
  | cons y r ih =>
    cases xs with
    | nil => simp at l
    | cons x t =>
      simp only [List.zip_cons_cons, List.cons_append, List.lookup_cons]
      by_cases e : k' = y
      · subst e
        have ne : k' ≠ k := fun z => hk (by rw [← z]; exact List.mem_cons_self)
        rw [if_neg ne]
        simp
      · have : (k' == y) = false := by simpa using e
        rw [this]
        exact ih (by simpa using l) fun z => hk (List.mem_cons_of_mem _ z)
theorem Eqv.room {e e' : Dc} {z : V} (q : Eqv e e') : e.room z = e'.room z := by
  cases q with
  | leaf v => rfl
  | row l h => cases z <;> simp [Dc.room, l]
  | tab p h =>
    cases z with
    | str k => simp only [Dc.room, List.contains_eq_mem, p.mem_iff]
    | _ => rfl
theorem Eqv.insN {e e' v v' : Dc} {z : V} (we : e.Wf) (we' : e'.Wf) (h : e.room z = true) (q : Eqv e e') (qv : Eqv v v') : Eqv (Dc.insN e z v) (Dc.insN e' z v') := by
  rcases room_cases h with ⟨a, xs, i, rfl, rfl, hi⟩ | ⟨a, ks, xs, k, rfl, rfl, hk⟩
  · cases q with
    | @row _ b _ ys l hh =>
      simp only [Dc.insN, Int.toNat_natCast]
      refine .row (by simp [l]) fun j x y h1 h2 => ?_
      have lt : (xs.take i).length = i := by rw [List.length_take]; omega
      have lt' : (ys.take i).length = i := by rw [List.length_take]; omega
      by_cases hj : j < i
      · rw [List.getElem?_append_left (by omega), List.getElem?_take_of_lt hj] at h1
        rw [List.getElem?_append_left (by omega), List.getElem?_take_of_lt hj] at h2
        exact hh j x y h1 h2
      · rw [List.getElem?_append_right (by omega), lt] at h1
        rw [List.getElem?_append_right (by omega), lt'] at h2
        cases hji : j - i with
        | zero =>
          rw [hji] at h1 h2
          simp at h1 h2
          subst h1 h2
          exact qv
        | succ m =>
          rw [hji] at h1 h2
          simp only [List.getElem?_cons_succ, List.getElem?_drop] at h1 h2
          exact hh _ x y h1 h2
  · cases q with
    | @tab _ b _ ls _ ys p hh =>
      cases we with
      | tab wl wn wx =>
        cases we' with
        | tab wl' wn' wy =>
          simp only [Dc.insN]
          refine .tab (p.append_right _) fun k' x y h1 h2 => ?_
          rw [zip_snoc wl hk] at h1
          rw [zip_snoc wl' (fun z => hk (p.mem_iff.mpr z))] at h2
          by_cases ek : k' = k
          · rw [if_pos ek] at h1 h2
            cases h1; cases h2
            exact qv
          · rw [if_neg ek] at h1 h2
            exact hh k' x y h1 h2
theorem Eqv.delN {e e' x : Dc} {z : V} (we : e.Wf) (we' : e'.Wf) (h : e.sub [z] = some x) (q : Eqv e e') : Eqv (Dc.delN e z) (Dc.delN e' z) := by
  rcases sub_one h with ⟨a, xs, i, rfl, rfl, hx⟩ | ⟨a, ks, xs, k, rfl, rfl, hx⟩
  · cases q with
    | @row _ b _ ys l hh =>
      simp only [Dc.delN, Int.toNat_natCast]
      have hi := (List.getElem?_eq_some_iff.mp hx).1
      refine .row (by rw [List.length_eraseIdx_of_lt hi, List.length_eraseIdx_of_lt (by omega), l]) fun j x1 y1 h1 h2 => ?_
      rw [List.getElem?_eraseIdx] at h1 h2
      split at h1
      · rename_i hj
        rw [if_pos hj] at h2
        exact hh j x1 y1 h1 h2
      · rename_i hj
        rw [if_neg hj] at h2
        exact hh (j + 1) x1 y1 h1 h2
  · cases q with
    | @tab _ b _ ls _ ys p hh =>
      cases we with
      | tab wl wn wx =>
        cases we' with
        | tab wl' wn' wy =>
          have hk := (mem_zip_lookup hx).1
          have hk' := p.mem_iff.mp hk
          simp only [Dc.delN]
          refine .tab ?_ fun k' x1 y1 h1 h2 => ?_
          · have g1 : ks[ix ks k]'(ix_lt hk) = k := (List.getElem?_eq_some_iff.mp (ix_get hk)).2
            have g2 : ls[ix ls k]'(ix_lt hk') = k := (List.getElem?_eq_some_iff.mp (ix_get hk')).2
            have e1 : ks.Perm (k :: ks.eraseIdx (ix ks k)) := by have := (erase_perm (ix_lt hk)).symm; rw [g1] at this; exact this
            have e2 : ls.Perm (k :: ls.eraseIdx (ix ls k)) := by have := (erase_perm (ix_lt hk')).symm; rw [g2] at this; exact this
            exact List.Perm.cons_inv (e1.symm.trans (p.trans e2))
          · rw [zip_erase wl wn hk] at h1
            rw [zip_erase wl' wn' hk'] at h2
            by_cases ek : k' = k
            · rw [if_pos ek] at h1; cases h1
            · rw [if_neg ek] at h1 h2
              exact hh k' x1 y1 h1 h2
theorem Eqv.slim {d e : Dc} (wd : d.Wf) (we : e.Wf) (h : Eqv d e) : d.slim → e.slim := by
  have gen : ∀ l : List Dc, (∀ e ∈ l, e.slim) → Dc.slimL l := by
    intro l
    induction l with
    | nil => intro _; simp [Dc.slimL]
    | cons x t ih => intro h; simp only [Dc.slimL]; exact ⟨h x List.mem_cons_self, ih fun y hy => h y (List.mem_cons_of_mem _ hy)⟩
  induction h with
  | leaf v => exact id
  | @row a b xs ys l hx ih =>
    intro s
    cases wd with
    | row wx =>
      cases we with
      | row wy =>
        simp only [Dc.slim] at s ⊢
        refine gen ys fun y hy => ?_
        obtain ⟨i, hi, rfl⟩ := List.mem_iff_getElem.mp hy
        have hi' : i < xs.length := by omega
        exact ih i xs[i] ys[i] (List.getElem?_eq_getElem hi') (List.getElem?_eq_getElem hi) (wx _ (List.getElem_mem hi')) (wy _ hy) (slimL_mem s _ (List.getElem_mem hi'))
  | @tab a b ks ls xs ys p hx ih =>
    intro s
    cases wd with
    | tab wl wn wx =>
      cases we with
      | tab wl' wn' wy =>
        simp only [Dc.slim] at s ⊢
        refine ⟨by rw [← wl', ← p.length_eq, wl]; exact s.1, gen ys fun y hy => ?_⟩
        obtain ⟨i, hi, rfl⟩ := List.mem_iff_getElem.mp hy
        have hil : i < ls.length := by omega
        have h2 := zip_at ls ys i wn' (List.getElem?_eq_getElem hil) (List.getElem?_eq_getElem hi)
        obtain ⟨x, h1, hm⟩ := lookup_of_mem wl (p.mem_iff.mpr (List.getElem_mem hil))
        exact ih _ x ys[i] h1 h2 (wx x hm) (wy _ hy) (slimL_mem s.2 _ hm)
end Dc
end L2

set_option Elab.async false
set_option linter.all false
set_option maxRecDepth 100000
set_option maxHeartbeats 4000000
namespace L2
open PySem PySem.Spec PyProof.Rows
namespace Dc
end Dc
inductive spHoldsI (vs : List V) (H : Hp) (Q : VK) (u3_ : XK) : Prop
  | mk (d : Dc) (z : V) (x0 : vs = [d.val, z]) (x1 : d.At H) (x2 : Dc.StepV z) (x3 : Q (.bl (d.sub [z]).isSome) H) : spHoldsI  vs H Q u3_
inductive spFoundI (vs : List V) (H : Hp) (Q : VK) (u3_ : XK) : Prop
  | mk (d : Dc) (t : Addr) (xs : List V) (e : Dc) (x0 : vs = [d.val, .ref t]) (x1 : d.At H) (x2 : H t = some (.tup xs)) (x3 : (∀ z ∈ xs, Dc.StepV z)) (x4 : d.sub xs = some e) (x5 : Q e.val H) : spFoundI  vs H Q u3_
inductive spHolderI (vs : List V) (H : Hp) (Q : VK) (u3_ : XK) : Prop
  | mk (d : Dc) (t : Addr) (us : List V) (lv : V) (e : Dc) (x0 : vs = [d.val, .ref t]) (x1 : d.At H) (x2 : H t = some (.tup (us ++ [lv]))) (x3 : (∀ z ∈ us ++ [lv], Dc.StepV z)) (x4 : d.sub us = some e) (x5 : ∀ H', Same H H' → Q e.val H') : spHolderI  vs H Q u3_
inductive spFullI (vs : List V) (H : Hp) (Q : VK) (u3_ : XK) : Prop
  | mk (d : Dc) (t : Addr) (us : List V) (lv : V) (e : Dc) (x : Dc) (x0 : vs = [d.val, .ref t]) (x1 : d.At H) (x2 : H t = some (.tup (us ++ [lv]))) (x3 : (∀ z ∈ us ++ [lv], Dc.StepV z)) (x4 : d.sub us = some e) (x5 : e.sub [lv] = some x) (x6 : ∀ H', Same H H' → Q e.val H') : spFullI  vs H Q u3_
inductive spRoomI (vs : List V) (H : Hp) (Q : VK) (u3_ : XK) : Prop
  | mk (d : Dc) (z : V) (x0 : vs = [d.val, z]) (x1 : d.At H) (x2 : Dc.StepV z) (x3 : Q (.bl (d.room z)) H) : spRoomI  vs H Q u3_
inductive spPutI (vs : List V) (H : Hp) (Q : VK) (u3_ : XK) : Prop
  | mk (d : Dc) (v : Dc) (t : Addr) (us : List V) (lv : V) (e : Dc) (x0 : vs = [d.val, .ref t, v.val]) (x1 : d.At H) (x2 : d.slim) (x3 : d.size ≤ 800) (x4 : v.At H) (x5 : v.slim) (x6 : v.size ≤ 900) (x7 : H t = some (.tup (us ++ [lv]))) (x8 : (∀ z ∈ us ++ [lv], Dc.StepV z)) (x9 : d.sub us = some e) (x10 : e.room lv = true) (x11 : ∀ (d' : Dc) (H' : Hp), Fresh H H' d' → Dc.Eqv (d.setP us (e.insN lv v)) d' → Q d'.val H') : spPutI  vs H Q u3_
inductive spTakenI (vs : List V) (H : Hp) (Q : VK) (u3_ : XK) : Prop
  | mk (d : Dc) (t : Addr) (us : List V) (lv : V) (e : Dc) (x : Dc) (x0 : vs = [d.val, .ref t]) (x1 : d.At H) (x2 : d.slim) (x3 : d.size ≤ 900) (x4 : H t = some (.tup (us ++ [lv]))) (x5 : (∀ z ∈ us ++ [lv], Dc.StepV z)) (x6 : d.sub us = some e) (x7 : e.sub [lv] = some x) (x8 : ∀ (q : Addr) (d' x' : Dc) (H' : Hp), FreshL H H' [d', x'] → H' q = some (.tup [d'.val, x'.val]) → Dc.Eqv (d.setP us (e.delN lv)) d' → Dc.Eqv x x' → Q (.ref q) H') : spTakenI  vs H Q u3_
inductive spLeaf2I (vs : List V) (H : Hp) (Q : VK) (u3_ : XK) : Prop
  | mk (c : Int) (k : Nat) (x0 : vs = [.int c, .int (k : Int)]) (x1 : k ≤ 1000) (x2 : ∀ v H', LeafV v → Same H H' → Q v H') : spLeaf2I  vs H Q u3_
inductive spNames1I (vs : List V) (H : Hp) (Q : VK) (u3_ : XK) : Prop
  | mk (c : Int) (x0 : vs = [.int c]) (x1 : ∀ (p : Addr) (ys : List Str) (H' : Hp), Same H H' → H p = none → H' p = some (.lst (ys.map V.str)) → ys.length = 6 → ys.Nodup → (∀ y ∈ ys, nameB y = true) → Q (.ref p) H') : spNames1I  vs H Q u3_
end L2
namespace L2
open PySem PySem.Spec PyProof.Rows
section
variable {X : Cx} {CX : CXT} {k : Nat} {f : Addr} {fd : FuncData} {ps : List Str} {ds : List Value} {dvs : List V} {sp : Sp} {E : XK} {x : Str} {p pos : Pos} {e : Expr} {es : List Expr} {t : TA} {tf : TE}
end
inductive spGatheredI (fI : Addr) (vs : List V) (H : Hp) (Q : VK) (u3_ : XK) : Prop
  | mk (d : Dc) (x0 : vs = [d.val, .ref fI]) (x1 : d.At H) (x2 : d.slim) (x3 : d.size ≤ 900) (x4 : ∀ (p : Addr) (ws : List Dc) (H' : Hp), Same H H' → H p = none → H' p = some (.lst (ws.map Dc.val)) → ws.length = d.size → Q (.ref p) H') : spGatheredI fI vs H Q u3_
end L2

set_option Elab.async false
set_option linter.all false
set_option maxRecDepth 100000
set_option maxHeartbeats 4000000
namespace L2
open PySem PySem.Spec PyProof.Rows
inductive EqX (K : PySem.W.Frag) (H : Hp) : Nat → V → V → Prop
  | flat {n : Nat} {x y : V} (fx : flatV x = true) (fy : flatV y = true) (e : eqV x y = true) : EqX K H n x y
  | same {n : Nat} {a : Addr} : EqX K H n (.ref a) (.ref a)
  | lst {n : Nat} {a b : Addr} {xs ys : List V} (ha : SqL K H a xs) (hb : SqL K H b ys) (l : xs.length = ys.length) (h : ∀ (i : Nat) u v, xs[i]? = some u → ys[i]? = some v → EqX K H n u v) : EqX K H (n + 1) (.ref a) (.ref b)
  | tup {n : Nat} {a b : Addr} {xs ys : List V} (ha : SqT K H a xs) (hb : SqT K H b ys) (l : xs.length = ys.length) (h : ∀ (i : Nat) u v, xs[i]? = some u → ys[i]? = some v → EqX K H n u v) : EqX K H (n + 1) (.ref a) (.ref b)
theorem EqX.self {K : PySem.W.Frag} {H : Hp} {n : Nat} {x : V} (f : flatV x = true) : EqX K H n x x := .flat f f (eqV_self f)
inductive EqXs (K : PySem.W.Frag) (H : Hp) (n : Nat) : List V → List V → Prop
  | nil : EqXs K H n [] []
  | cons {x y : V} {xs ys : List V} (h : EqX K H n x y) (t : EqXs K H n xs ys) : EqXs K H n (x :: xs) (y :: ys)
theorem EqXs.length {K : PySem.W.Frag} {H : Hp} {n : Nat} {xs ys : List V} (h : EqXs K H n xs ys) : xs.length = ys.length := by
  induction h with
  | nil => rfl
  | cons _ _ ih => rw [List.length_cons, List.length_cons, ih]
theorem EqXs.get {K : PySem.W.Frag} {H : Hp} {n : Nat} {xs ys : List V} (h : EqXs K H n xs ys) : ∀ (i : Nat) u v, xs[i]? = some u → ys[i]? = some v → EqX K H n u v := by
  induction h with
  | nil => intro i u v h1; cases h1
  | cons h _ ih =>
    intro i u v h1 h2
    cases i with
    | zero => cases h1; cases h2; exact h
    | succ i => exact ih i u v h1 h2
theorem EqXs.flats {K : PySem.W.Frag} {H : Hp} {n : Nat} : ∀ {xs : List V}, (∀ z ∈ xs, flatV z = true) → EqXs K H n xs xs
  | [], _ => .nil
  | x :: xs, f => .cons (.self (f x List.mem_cons_self)) (EqXs.flats fun z hz => f z (List.mem_cons_of_mem _ hz))
section
variable {X : Cx} {pins : List (Addr × Obj)} {σ : St} {H : Hp} {s : Shared}
theorem arr_at {its : List Value} {j : Nat} {u : Value} (g : its[j]? = some u) (h : j < its.toArray.size) : its.toArray[j] = u := by
  have := (List.getElem?_eq_some_iff.mp g).2
  simpa using this
theorem vals_at {xs : List V} {its : List Value} (r : Vals xs its) {j : Nat} (h : j < its.toArray.size) : ∃ x, xs[j]? = some x ∧ RelV x its.toArray[j] := by
  have e : its.toArray.size = xs.length := by rw [List.size_toArray]; exact r.length.symm
  have h' : j < xs.length := by rw [← e]; exact h
  obtain ⟨u, g, ru⟩ := r.get (List.getElem?_eq_getElem h')
  exact ⟨_, List.getElem?_eq_getElem h', by rw [arr_at g h]; exact ru⟩
theorem EqX.at (I : Inv X pins σ H s) {n : Nat} {x y : V} (h : EqX X.K H n x y) : ∀ {A : Around} {u v : Value}, A.units + n < cLine → RelV x u → RelV y v → SeqAt.EqAt A s u v true := by
  induction h with
  | flat fx fy e =>
    intro A u v hu ru rv
    have := eqAt_V (A := A) (s := s) ru rv fx fy
    rw [e] at this
    exact this
  | same =>
    intro A u v hu ru rv
    cases (show u = _ from ru)
    cases (show v = _ from rv)
    exact SeqAt.EqAt.same _
  | @lst n a b xs ys ha hb l h ih =>
    intro A u v hu ru rv
    cases (show u = Value.ref a from ru)
    cases (show v = Value.ref b from rv)
    by_cases e : a = b
    · rw [e]; exact SeqAt.EqAt.same _
    · refine SeqAt.EqAt.of_refs e ?_
      obtain ⟨its, r1, p1, _⟩ := I.list ha
      obtain ⟨its2, r2, p2, _⟩ := I.list hb
      have e1 : its.toArray.size = xs.length := by rw [List.size_toArray]; exact r1.length.symm
      have e2 : its2.toArray.size = ys.length := by rw [List.size_toArray]; exact r2.length.symm
      have key := SeqAt.RcAt.lists (A := A) (e := fun _ => true) p1.isList p2.isList (by rw [e1, e2, l]) (by omega) (fun j h1 h2 => by
        obtain ⟨x, gx, rx⟩ := vals_at r1 h1
        obtain ⟨y, gy, ry⟩ := vals_at r2 h2
        exact ih j x y gx gy (A := A.in1) (by show A.units + 1 + n < cLine; omega) rx ry)
      have eb : (List.range its.toArray.size).all (fun _ => true) = true := by simp
      rw [eb] at key
      exact key
  | @tup n a b xs ys ha hb l h ih =>
    intro A u v hu ru rv
    cases (show u = Value.ref a from ru)
    cases (show v = Value.ref b from rv)
    by_cases e : a = b
    · rw [e]; exact SeqAt.EqAt.same _
    · refine SeqAt.EqAt.of_refs e ?_
      obtain ⟨its, r1, p1, _⟩ := I.tuple ha
      obtain ⟨its2, r2, p2, _⟩ := I.tuple hb
      have e1 : its.toArray.size = xs.length := by rw [List.size_toArray]; exact r1.length.symm
      have e2 : its2.toArray.size = ys.length := by rw [List.size_toArray]; exact r2.length.symm
      have key := SeqAt.RcAt.tuples (A := A) (e := fun _ => true) p1 p2 (by omega) (fun j h1 h2 => by
        obtain ⟨x, gx, rx⟩ := vals_at r1 h1
        obtain ⟨y, gy, ry⟩ := vals_at r2 h2
        exact ih j x y gx gy (A := A.in1) (by show A.units + 1 + n < cLine; omega) rx ry)
      have eb : ((List.range (min its.toArray.size its2.toArray.size)).all (fun _ => true) && its.toArray.size == its2.toArray.size) = true := by
        rw [e1, e2, l]; simp
      rw [eb] at key
      exact key
inductive rEqX (K : PySem.W.Frag) (b0 : Bool) (x y : V) (H : Hp) (Q : VK) : Prop
  | mk (a b : Addr) (xs ys : List V) (x0 : x = .ref a) (x1 : y = .ref b) (ha : SqL K H a xs) (hb : SqL K H b ys) (h : EqXs K H 20 xs ys) (q : Q (.bl b0) H) : rEqX K b0 x y H Q
end
def keyD : Key → PyData
  | .inl i => .int i
  | .inr x => .str x
mutual
inductive Sees (H : Hp) : V → PyData → Prop
  | non : Sees H .non .none
  | bl (b : Bool) : Sees H (.bl b) (.bool b)
  | int (i : Int) : Sees H (.int i) (.int i)
  | str (x : Str) : Sees H (.str x) (.str x)
  | lst {a : Addr} {xs : List V} {ds : List PyData} (h : Rd H a (.lst xs)) (r : SeesAll H xs ds) : Sees H (.ref a) (.list ds)
  | tup {a : Addr} {xs : List V} {ds : List PyData} (h : H a = some (.tup xs)) (r : SeesAll H xs ds) : Sees H (.ref a) (.tuple ds)
  | dct {a : Addr} {kvs : List (Key × V)} {ds : List PyData} (h : Rd H a (.dK kvs)) (r : SeesAll H (kvs.map (·.2)) ds) : Sees H (.ref a) (.dict ((kvs.map fun p => keyD p.1).zip ds))
  | oth {v : V} {d : PyData} (r : ∀ H', Same H H' → ∀ (P : Program) (w : World) (h : Heap), HOk P w H' h → ∀ u, RelV v u → ∃ as, Reads h u d as ∧ ∀ b ∈ as, ∃ o, H' b = some o) : Sees H v d
inductive SeesAll (H : Hp) : List V → List PyData → Prop
  | nil : SeesAll H [] []
  | cons {x : V} {d : PyData} {xs : List V} {ds : List PyData} (h : Sees H x d) (t : SeesAll H xs ds) : SeesAll H (x :: xs) (d :: ds)
end
theorem SeesAll.length {H : Hp} : ∀ {xs : List V} {ds : List PyData}, SeesAll H xs ds → ds.length = xs.length
  | _, _, .nil => rfl
  | _, _, .cons _ t => by rw [List.length_cons, List.length_cons, t.length]
mutual
theorem Sees.up {H H' : Hp} (e : Same H H') : ∀ {v : V} {d : PyData}, Sees H v d → Sees H' v d
  | _, _, .non => .non
  | _, _, .bl b => .bl b
  | _, _, .int i => .int i
  | _, _, .str x => .str x
  | _, _, .lst h r => .lst (h.up (e _)) (r.up e)
  | _, _, .tup h r => .tup (e _ _ h) (r.up e)
  | _, _, .dct h r => .dct (h.up (e _)) (r.up e)
  | _, _, .oth r => .oth fun H'' s => r H'' (e.trans s)
theorem SeesAll.up {H H' : Hp} (e : Same H H') : ∀ {xs : List V} {ds : List PyData}, SeesAll H xs ds → SeesAll H' xs ds
  | _, _, .nil => .nil
  | _, _, .cons h t => .cons (h.up e) (t.up e)
end
theorem Rd.some {H : Hp} {a : Addr} {u : HO} (h : Rd H a u) : ∃ o, H a = some o := by
  rcases h with h | ⟨o, h⟩
  · exact ⟨_, h⟩
  · exact ⟨_, h⟩
theorem kv_vals {κ : Type} {kvs : List (κ × V)} {vs : List (κ × Value)} (r : KV kvs vs) : Vals (kvs.map (·.2)) (vs.map (·.2)) := by
  unfold KV at r
  induction r with
  | nil => exact .nil
  | cons h _ ih => exact .cons h.2 ih
theorem pairs_vals {P : Program} {w : World} : ∀ {es : List DictEntry} {vs : List (Key × Value)}, Pairs (mixKind P w) es vs → es.map (·.val) = vs.map (·.2)
  | _, _, .nil => rfl
  | _, _, .cons _ hv t => by rw [List.map_cons, List.map_cons, hv, pairs_vals t]
theorem readsKeys {h : Heap} {P : Program} {w : World} : ∀ {es : List DictEntry} {vs : List (Key × Value)}, Pairs (mixKind P w) es vs → ReadsAll h (es.map (·.key)) (vs.map fun p => keyD p.1) []
  | _, _, .nil => .nil
  | _, _, .cons (e := e) (kv := kv) hk hv t => by
    have : Reads h e.key (keyD kv.1) [] := by
      rcases keyIs_shape (show keyIs kv.1 e.key = true from hk) with ⟨i, t, e1, e2⟩ | ⟨x, t, e1, e2⟩
      · rw [e1, e2]; exact .int i t
      · rw [e1, e2]; exact .str x t
    exact ReadsAll.cons this (readsKeys t)
mutual
theorem Sees.reads {P : Program} {w : World} {H : Hp} {h : Heap} (ok : HOk P w H h) : ∀ {v : V} {d : PyData}, Sees H v d → ∀ {u : Value}, RelV v u → ∃ as, Reads h u d as ∧ ∀ b ∈ as, ∃ o, H b = some o
  | _, _, .non, u, r => by
    cases (show u = Value.none from r)
    exact ⟨[], .none, fun b hb => nomatch hb⟩
  | _, _, .bl b, u, r => by
    cases (show u = Value.bool b from r)
    exact ⟨[], .bool b, fun b hb => nomatch hb⟩
  | _, _, .int i, u, r => by
    obtain ⟨t, rfl⟩ : ∃ t, u = Value.int i t := r
    exact ⟨[], .int i t, fun b hb => nomatch hb⟩
  | _, _, .str x, u, r => by
    obtain ⟨t, rfl⟩ : ∃ t, u = Value.str x t := r
    exact ⟨[], .str x t, fun b hb => nomatch hb⟩
  | _, _, .lst (a := a) (xs := xs) (ds := ds) e t, u, r => by
    cases (show u = Value.ref a from r)
    obtain ⟨z, its, n, rv, ho⟩ := (show ObjOk P w H h a (.lst xs) from rd_of ok e)
    obtain ⟨as, ra, ha⟩ := SeesAll.reads ok t rv
    refine ⟨a :: as, .list ho rfl rfl (by simpa using ra), fun b hb => ?_⟩
    rcases List.mem_cons.mp hb with rfl | hb
    · exact e.some
    · exact ha b hb
  | _, _, .tup (a := a) (xs := xs) (ds := ds) e t, u, r => by
    cases (show u = Value.ref a from r)
    obtain ⟨z, its, rv, it⟩ := (show ObjOk P w H h a (.tup xs) from ok a _ e)
    obtain ⟨as, ra, ha⟩ := SeesAll.reads ok t rv
    obtain ⟨o, ho, hc, n, hd⟩ := it
    exact ⟨as, .tuple ho hc hd (by simpa using ra), ha⟩
  | _, _, .dct (a := a) (kvs := kvs) (ds := ds) e t, u, r => by
    cases (show u = Value.ref a from r)
    obtain ⟨z, hs, vs, rv, o, es, ep, ho, hx, hd, _, hp, _⟩ := (show ObjOk P w H h a (.dK kvs) from rd_of ok e)
    obtain ⟨bs, rb, hb⟩ := SeesAll.reads ok t (kv_vals rv)
    have lz : (kvs.map fun p => keyD p.1).length = ds.length := by rw [List.length_map, t.length, List.length_map]
    have k1 : ((kvs.map fun p => keyD p.1).zip ds).map (·.1) = vs.map fun p => keyD p.1 := by
      rw [List.map_fst_zip (by omega)]
      have := congrArg (List.map keyD) (KV.keys rv)
      rw [List.map_map, List.map_map] at this
      exact this
    have k2 : ((kvs.map fun p => keyD p.1).zip ds).map (·.2) = ds := List.map_snd_zip (by omega)
    refine ⟨a :: [] ++ bs, .dict ho hx.1 hd (by rw [k1]; exact readsKeys hp) (by rw [k2, pairs_vals hp]; exact rb), fun b hb' => ?_⟩
    rcases List.mem_cons.mp hb' with rfl | hb'
    · exact e.some
    · exact hb b hb'
  | _, _, .oth r', u, r => r' H (Same.refl H) P w h ok u r
theorem SeesAll.reads {P : Program} {w : World} {H : Hp} {h : Heap} (ok : HOk P w H h) : ∀ {xs : List V} {ds : List PyData}, SeesAll H xs ds → ∀ {us : List Value}, Vals xs us → ∃ as, ReadsAll h us ds as ∧ ∀ b ∈ as, ∃ o, H b = some o
  | _, _, .nil, us, r => by
    cases r
    exact ⟨[], .nil, fun b hb => nomatch hb⟩
  | _, _, .cons q t, us, r => by
    cases r with
    | cons r1 rr =>
      obtain ⟨as, ra, ha⟩ := q.reads ok r1
      obtain ⟨bs, rb, hb⟩ := SeesAll.reads ok t rr
      exact ⟨as ++ bs, .cons ra rb, fun b h => (List.mem_append.mp h).elim (ha b) (hb b)⟩
end
inductive rReprI (xs : List V) (H : Hp) (Q : VK) : Prop
  | mk (a : Addr) (d : PyData) (e : xs = [.ref a]) (h : Sees H (.ref a) d) (s : d.showable = true) (z : d.shown.length ≤ sizeLine) (dp : d.depth ≤ 150) (q : Q (.str d.shown) H) : rReprI xs H Q
end L2

set_option Elab.async false
set_option linter.all false
set_option maxRecDepth 100000
set_option maxHeartbeats 4000000
namespace L2
open PySem PySem.Spec PyProof.Rows
theorem at0 {x : V} {r : List V} : atI (x :: r) 0 = some x := atI_nat (j := 0) rfl
theorem at1 {x y : V} {r : List V} : atI (x :: y :: r) 1 = some y := atI_nat (j := 1) rfl
theorem at2 {x y z : V} {r : List V} : atI (x :: y :: z :: r) 2 = some z := atI_nat (j := 2) rfl
theorem b_repr : bootBuiltins "repr" = some (.builtin "repr") := by decide +kernel
def plc : V → Bool
  | .str _ => false
  | _ => true
def aheadP (zs xs : List V) : List V :=
  match zs[xs.length - 1]?, xs.getLast? with
  | some (.int i), some (.int j) => if eqTs (zs.take (xs.length - 1)) xs.dropLast = true ∧ (j < i ∨ (i = j ∧ xs.length < zs.length)) then zs.set (xs.length - 1) (.int (i + 1)) else zs
  | _, _ => zs
def toP (w : Str) (xs zs : List V) : List V := if w = "copy" then zs else if w = "move" then aheadP zs xs else xs
def steps (xs : List V) : Prop := ∀ z ∈ xs, Dc.StepV z
theorem set_split {zs us : List V} {v : V} (h : zs.take us.length = us) (hl : us.length < zs.length) : us ++ [v] ++ zs.drop (us.length + 1) = zs.set us.length v := by
  rw [List.set_eq_take_append_cons_drop, if_pos hl, h, List.append_assoc]
  rfl
theorem ahead_steps {zs xs : List V} (h : steps zs) : steps (aheadP zs xs) := by
  unfold aheadP
  split
  · rename_i i j e1 e2
    split
    · intro z hz
      rcases List.mem_or_eq_of_mem_set hz with hz | rfl
      · exact h z hz
      · have := h _ (List.mem_of_getElem? e1)
        rcases this with ⟨k, e⟩ | ⟨k, e, _⟩
        · cases e; exact .inl ⟨k + 1, by simp⟩
        · cases e
    · exact h
  · exact h
def words9 : List Str := ["put", "take", "move", "copy", "change", "ask", "has", "lacks", "is"]
structure Rw (H : Hp) (r : V) (w : Str) (xs zs : List V) (p : Addr) : Prop where
  ex : ∃ (a : Addr) (rest : List V), r = .ref a ∧ H a = some (.tup (.str w :: .ref p :: rest)) ∧ (w = "copy" ∨ w = "move" → ∃ p2, rest = [.ref p2] ∧ H p2 = some (.tup zs))
  hp : H p = some (.tup xs)
  sx : steps xs
  sz : steps zs
  lx : xs.length ≤ 100
  lz : zs.length ≤ 100
  wd : w ∈ words9
  nx : w = "put" ∨ w = "lacks" ∨ w = "take" ∨ w = "move" → xs ≠ []
  nz : w = "copy" ∨ w = "move" → zs ≠ []
theorem Rw.up {H H' : Hp} {r : V} {w : Str} {xs zs : List V} {p : Addr} (h : Rw H r w xs zs p) (s : Same H H') : Rw H' r w xs zs p := by
  obtain ⟨⟨a, rest, e, ha, hr⟩, hp, sx, sz, lx, lz, wd, nx, nz⟩ := h
  exact ⟨⟨a, rest, e, s _ _ ha, fun hw => by obtain ⟨p2, e2, h2⟩ := hr hw; exact ⟨p2, e2, s _ _ h2⟩⟩, s _ _ hp, sx, sz, lx, lz, wd, nx, nz⟩
def PairAt (H : Hp) (v : V) (ys : List V) : Prop := ∃ (t h : Addr) (l : V), v = .ref t ∧ H t = some (.tup [.ref h, l]) ∧ H h = some (.tup ys.dropLast) ∧ ys.getLast? = some l
def wordsCs : List Str := ["put", "copy", "move"]
abbrev wordsC : List V := wordsCs.map V.str
def CmAt (H : Hp) (v : V) (w : Str) (xs zs : List V) : Prop := if inV (.str w) wordsC then PairAt H v (toP w xs zs) else v = .non
inductive TupsAt (H : Hp) : List Addr → List (List V) → Prop
  | nil : TupsAt H [] []
  | cons {a : Addr} {xs : List V} {as : List Addr} {xss : List (List V)} (h : H a = some (.tup xs)) (t : TupsAt H as xss) : TupsAt H (a :: as) (xs :: xss)
theorem TupsAt.length {H : Hp} {ps : List Addr} {xss : List (List V)} (h : TupsAt H ps xss) : ps.length = xss.length := by
  induction h with
  | nil => rfl
  | cons _ _ ih => rw [List.length_cons, List.length_cons, ih]
theorem TupsAt.up {H H' : Hp} {ps : List Addr} {xss : List (List V)} (h : TupsAt H ps xss) (s : ∀ b ys, H b = some (.tup ys) → H' b = some (.tup ys)) : TupsAt H' ps xss := by
  induction h with
  | nil => exact .nil
  | cons h _ ih => exact .cons (s _ _ h) ih
theorem TupsAt.push {H : Hp} {ps : List Addr} {xss : List (List V)} {p : Addr} {ys : List V} (h : TupsAt H ps xss) (hp : H p = some (.tup ys)) : TupsAt H (ps ++ [p]) (xss ++ [ys]) := by
  induction h with
  | nil => exact .cons hp .nil
  | cons h _ ih => exact .cons h ih
structure Nd (H H' : Hp) (l : Addr) (ps : List Addr) (xss : List (List V)) : Prop where
  same : Same H H'
  nl : H l = none
  hl : H' l = some (.lst (ps.map V.ref))
  tu : TupsAt H' ps xss
theorem Nd.up {H H1 H2 : Hp} {l : Addr} {ps : List Addr} {xss : List (List V)} (h : Nd H H1 l ps xss) (s : Same H1 H2) : Nd H H2 l ps xss := ⟨h.same.trans s, h.nl, s _ _ h.hl, h.tu.up fun b ys e => s _ _ e⟩
theorem Nd.push {H H1 : Hp} {l p : Addr} {ps : List Addr} {xss : List (List V)} {ys : List V} (h : Nd H H1 l ps xss) (hp : H1 p = some (.tup ys)) : Nd H (upd H1 l (.lst (ps.map V.ref ++ [.ref p]))) l (ps ++ [p]) (xss ++ [ys]) := by
  have k : ∀ b zs, H1 b = some (.tup zs) → upd H1 l (.lst (ps.map V.ref ++ [.ref p])) b = some (.tup zs) := fun b zs e => by
    rw [upd_ne (ne_of e h.hl (by intro z; cases z))]; exact e
  exact ⟨h.same.put h.nl, h.nl, by rw [upd_same, List.map_append]; rfl, (h.tu.up k).push (k _ _ hp)⟩
def BrAt (H : Hp) (v : V) (w : Str) (xs zs : List V) : Prop := if w = "lacks" then PairAt H v xs else if inV (.str w) wordsC = true ∧ plc ((toP w xs zs).getLastD .non) = false then PairAt H v (toP w xs zs) else v = .non
end L2
namespace L2
open PySem PySem.Spec PyProof.Rows
theorem eqX_tup {K : PySem.W.Frag} {H : Hp} {n : Nat} {a b : Addr} {xs : List V} (ha : H a = some (.tup xs)) (hb : H b = some (.tup xs)) (f : steps xs) : EqX K H (n + 1) (.ref a) (.ref b) :=
  .tup (SqT.of ha) (SqT.of hb) rfl (EqXs.flats fun z hz => (f z hz).flat).get
theorem PairAt.eq {K : PySem.W.Frag} {H : Hp} {n : Nat} {v v' : V} {ys : List V} (h : PairAt H v ys) (h' : PairAt H v' ys) (f : steps ys) : EqX K H (n + 2) v v' := by
  obtain ⟨t, a, l, rfl, ht, ha, hl⟩ := h
  obtain ⟨t', a', l', rfl, ht', ha', hl'⟩ := h'
  rw [hl] at hl'
  cases hl'
  exact .tup (SqT.of ht) (SqT.of ht') rfl (EqXs.cons (eqX_tup ha ha' fun z hz => f z (List.dropLast_subset _ hz)) (.cons (.self (f l (List.mem_of_getLast? hl)).flat) .nil)).get
theorem toP_steps {w : Str} {xs zs : List V} (hx : steps xs) (hz : steps zs) : steps (toP w xs zs) := by
  unfold toP
  split
  · exact hz
  · split
    · exact ahead_steps hz
    · exact hx
theorem CmAt.eq {K : PySem.W.Frag} {H : Hp} {n : Nat} {v v' : V} {w : Str} {xs zs : List V} (h : CmAt H v w xs zs) (h' : CmAt H v' w xs zs) (hx : steps xs) (hz : steps zs) : EqX K H (n + 2) v v' := by
  unfold CmAt at h h'
  split at h
  · rename_i c
    rw [if_pos c] at h'
    exact h.eq h' (toP_steps hx hz)
  · rename_i c
    rw [if_neg c] at h'
    rw [h, h']
    exact .self rfl
theorem BrAt.eq {K : PySem.W.Frag} {H : Hp} {n : Nat} {v v' : V} {w : Str} {xs zs : List V} (h : BrAt H v w xs zs) (h' : BrAt H v' w xs zs) (hx : steps xs) (hz : steps zs) : EqX K H (n + 2) v v' := by
  unfold BrAt at h h'
  split at h
  · rename_i c
    rw [if_pos c] at h'
    exact h.eq h' hx
  · rename_i c
    rw [if_neg c] at h'
    split at h
    · rename_i c2
      rw [if_pos c2] at h'
      exact h.eq h' (toP_steps hx hz)
    · rename_i c2
      rw [if_neg c2] at h'
      rw [h, h']
      exact .self rfl
theorem TupsAt.eq {K : PySem.W.Frag} {H : Hp} {n : Nat} : ∀ {ps qs : List Addr} {xss : List (List V)}, TupsAt H ps xss → TupsAt H qs xss → (∀ xs ∈ xss, steps xs) → EqXs K H (n + 1) (ps.map V.ref) (qs.map V.ref)
  | _, _, _, .nil, .nil, _ => .nil
  | _, _, _, .cons h t, .cons h' t', f => .cons (eqX_tup h h' (f _ List.mem_cons_self)) (TupsAt.eq t t' fun xs hx => f xs (List.mem_cons_of_mem _ hx))
def NoT (H : Hp) (v : V) : Prop := v = .non ∨ ∃ (a : Addr) (ys : List V), v = .ref a ∧ H a = some (.tup ys)
theorem NoT.up {H H' : Hp} {v : V} (h : NoT H v) (s : Same H H') : NoT H' v := h.imp id fun ⟨a, ys, e, h⟩ => ⟨a, ys, e, s _ _ h⟩
theorem PairAt.noT {H : Hp} {v : V} {ys : List V} (h : PairAt H v ys) : NoT H v := by
  obtain ⟨t, a, l, rfl, ht, _⟩ := h
  exact .inr ⟨t, _, rfl, ht⟩
theorem CmAt.noT {H : Hp} {v : V} {w : Str} {xs zs : List V} (h : CmAt H v w xs zs) : NoT H v := by
  unfold CmAt at h
  split at h
  · exact h.noT
  · exact .inl h
theorem BrAt.noT {H : Hp} {v : V} {w : Str} {xs zs : List V} (h : BrAt H v w xs zs) : NoT H v := by
  unfold BrAt at h
  split at h
  · exact h.noT
  · split at h
    · exact h.noT
    · exact .inl h
theorem TupsAt.noT {H : Hp} {ps : List Addr} {xss : List (List V)} (h : TupsAt H ps xss) : ∀ v ∈ ps.map V.ref, NoT H v := by
  induction h with
  | nil => intro v hv; cases hv
  | cons h _ ih =>
    intro v hv
    rcases List.mem_cons.mp hv with rfl | hv
    · exact .inr ⟨_, _, rfl, h⟩
    · exact ih v hv
theorem PairAt.up {H H' : Hp} {v : V} {ys : List V} (h : PairAt H v ys) (s : Same H H') : PairAt H' v ys := by
  obtain ⟨t, a, l, e, ht, ha, hl⟩ := h
  exact ⟨t, a, l, e, s _ _ ht, s _ _ ha, hl⟩
theorem CmAt.up {H H' : Hp} {v : V} {w : Str} {xs zs : List V} (h : CmAt H v w xs zs) (s : Same H H') : CmAt H' v w xs zs := by
  unfold CmAt at h ⊢
  split at h
  · rename_i c; rw [if_pos c]; exact h.up s
  · rename_i c; rw [if_neg c]; exact h
theorem BrAt.up {H H' : Hp} {v : V} {w : Str} {xs zs : List V} (h : BrAt H v w xs zs) (s : Same H H') : BrAt H' v w xs zs := by
  unfold BrAt at h ⊢
  split at h
  · rename_i c; rw [if_pos c]; exact h.up s
  · rename_i c
    rw [if_neg c]
    split at h
    · rename_i c2; rw [if_pos c2]; exact h.up s
    · rename_i c2; rw [if_neg c2]; exact h
def low (xs : List V) : Prop := ∀ z ∈ xs, ∀ i : Int, z = .int i → i.natAbs < 1000
def SlotsAt (H : Hp) (vs : List V) : Prop := ∀ v ∈ vs, ∃ (p : Addr) (xs : List V), v = .ref p ∧ H p = some (.tup xs) ∧ steps xs ∧ xs ≠ [] ∧ xs.length ≤ 20 ∧ low xs
def Shows (H : Hp) (v : V) : Prop := ∃ d : PyData, Sees H v d ∧ d.showable = true ∧ d.shown.length ≤ sizeLine ∧ d.depth ≤ 100
theorem Shows.up {H H' : Hp} {v : V} (h : Shows H v) (s : Same H H') : Shows H' v := by
  obtain ⟨d, h1, h2⟩ := h
  exact ⟨d, h1.up s, h2⟩
end L2
namespace L2
open PySem PySem.Spec PyProof.Rows
theorem SlotsAt.up {H H' : Hp} {us : List V} (S : SlotsAt H us) (s : ∀ q xs, H q = some (.tup xs) → H' q = some (.tup xs)) : SlotsAt H' us := fun v hv => by
  obtain ⟨p, xs, e, hp, r⟩ := S v hv
  exact ⟨p, xs, e, s _ _ hp, r⟩
def Fin1 (H : Hp) (v : V) (b n : Nat) : Prop := ∃ D : PyData, Sees H v D ∧ D.showable = true ∧ D.leavesShort 2000 = true ∧ D.bulk ≤ b ∧ D.depth ≤ n
def FinL (H : Hp) (xs : List V) (b n : Nat) : Prop := ∃ Ds : List PyData, SeesAll H xs Ds ∧ PyData.showableAll Ds = true ∧ PyData.leavesShortAll 2000 Ds = true ∧ PyData.bulkAll Ds ≤ b ∧ PyData.depthAll Ds ≤ n
theorem FinL.nil {H : Hp} {n : Nat} : FinL H [] 0 n := ⟨[], .nil, rfl, rfl, Nat.le_refl _, Nat.zero_le _⟩
theorem FinL.cons {H : Hp} {v : V} {xs : List V} {b b' n : Nat} (h : Fin1 H v b n) (t : FinL H xs b' n) : FinL H (v :: xs) (b + 1 + b') n := by
  obtain ⟨D, h1, h2, h3, h4, h5⟩ := h
  obtain ⟨Ds, t1, t2, t3, t4, t5⟩ := t
  exact ⟨D :: Ds, .cons h1 t1, by simp [PyData.showableAll, h2, t2], by simp [PyData.leavesShortAll, h3, t3], by simp only [PyData.bulkAll]; omega, by simp only [PyData.depthAll]; omega⟩
theorem Fin1.mono {H : Hp} {v : V} {b b' n n' : Nat} (h : Fin1 H v b n) (hb : b ≤ b') (hn : n ≤ n') : Fin1 H v b' n' := by
  obtain ⟨D, h1, h2, h3, h4, h5⟩ := h
  exact ⟨D, h1, h2, h3, by omega, by omega⟩
theorem FinL.mono {H : Hp} {xs : List V} {b b' n n' : Nat} (h : FinL H xs b n) (hb : b ≤ b') (hn : n ≤ n') : FinL H xs b' n' := by
  obtain ⟨D, h1, h2, h3, h4, h5⟩ := h
  exact ⟨D, h1, h2, h3, by omega, by omega⟩
theorem Fin1.tup {H : Hp} {a : Addr} {xs : List V} {b n : Nat} (h : H a = some (.tup xs)) (t : FinL H xs b n) : Fin1 H (.ref a) b (n + 1) := by
  obtain ⟨Ds, t1, t2, t3, t4, t5⟩ := t
  exact ⟨.tuple Ds, .tup h t1, by simpa [PyData.showable] using t2, by simpa [PyData.leavesShort] using t3, by simpa [PyData.bulk] using t4, by simp only [PyData.depth]; omega⟩
theorem Fin1.lst {H : Hp} {a : Addr} {xs : List V} {b n : Nat} (h : Rd H a (.lst xs)) (t : FinL H xs b n) : Fin1 H (.ref a) b (n + 1) := by
  obtain ⟨Ds, t1, t2, t3, t4, t5⟩ := t
  exact ⟨.list Ds, .lst h t1, by simpa [PyData.showable] using t2, by simpa [PyData.leavesShort] using t3, by simpa [PyData.bulk] using t4, by simp only [PyData.depth]; omega⟩
theorem Fin1.int {H : Hp} {i : Int} {n : Nat} (h : i.natAbs < 2 ^ 400) : Fin1 H (.int i) 0 n := by
  have lg : i.natAbs.log2 < 400 := by
    by_cases z : i.natAbs = 0
    · rw [z]; decide
    · exact (Nat.log2_lt z).mpr h
  refine ⟨.int i, .int i, by simp only [PyData.showable, decide_eq_true_eq]; omega, ?_, Nat.le_refl _, Nat.zero_le _⟩
  simp only [PyData.leavesShort, decide_eq_true_eq, PyData.shown]
  exact decide_eq_true (Nat.le_trans (int_text_len_1921 (i := i) (by omega)) (show 1921 ≤ 2000 by decide))
theorem isL_small {c : Nat} (h : isL c = true) : c < 16 ^ 8 := by
  have := of_decide_eq_true h
  have all : ∀ c ∈ LET, c < 16 ^ 8 := by decide +kernel
  exact all c this
theorem Fin1.str {H : Hp} {x : Str} {n b : Nat} (h : (sgn x).all isL = true) (l : x.length ≤ b) : Fin1 H (.str x) b n := by
  refine ⟨.str x, .str x, rfl, ?_, l, Nat.zero_le _⟩
  simp only [PyData.leavesShort, List.all_eq_true, decide_eq_true_eq]
  exact fun c hc => isL_small (List.all_eq_true.mp h c hc)
theorem Fin1.shows {H : Hp} {v : V} {b n : Nat} (h : Fin1 H v b n) (hb : b ≤ 1000) (hn : n ≤ 100) : Shows H v := by
  obtain ⟨D, h1, h2, h3, h4, h5⟩ := h
  refine ⟨D, h1, h2, ?_, by omega⟩
  have := PyData.shown_le_bulk 2000 (by decide) D h3
  have z : (2000 + 2) * D.bulk ≤ (2000 + 2) * 1000 := Nat.mul_le_mul (Nat.le_refl _) (by omega)
  exact Nat.le_trans (show D.shown.length ≤ 2100000 by omega) (by decide)
theorem nameB_all {x : Str} (h : nameB x = true) : (sgn x).all isL = true := by
  unfold nameB nameS at h
  simp only [Bool.and_eq_true] at h
  exact h.2
theorem FinKv {H : Hp} : ∀ {ks : List Str} {xs : List Dc}, ks.length = xs.length → (∀ k ∈ ks, nameB k = true) → (∀ x ∈ xs, ∃ b, b + 10 ≤ 22 * x.size ∧ Fin1 H x.val b x.size) →
    ∃ Ds : List PyData, SeesAll H ((Dc.kvs ks xs).map (·.2)) Ds ∧ PyData.showableKv (((Dc.kvs ks xs).map fun p => keyD p.1).zip Ds) = true ∧ PyData.leavesShortKv 2000 (((Dc.kvs ks xs).map fun p => keyD p.1).zip Ds) = true ∧ PyData.bulkKv (((Dc.kvs ks xs).map fun p => keyD p.1).zip Ds) ≤ 22 * Dc.sizeL xs ∧ PyData.depthKv (((Dc.kvs ks xs).map fun p => keyD p.1).zip Ds) ≤ Dc.sizeL xs
  | [], [], _, _, _ => ⟨[], .nil, rfl, rfl, Nat.zero_le _, Nat.zero_le _⟩
  | k :: ks, x :: xs, l, hk, hx => by
    obtain ⟨b, hb, D, h1, h2, h3, h4, h5⟩ := hx x List.mem_cons_self
    obtain ⟨Ds, t1, t2, t3, t4, t5⟩ := FinKv (H := H) (ks := ks) (xs := xs) (by simpa using l) (fun y hy => hk y (List.mem_cons_of_mem _ hy)) fun y hy => hx y (List.mem_cons_of_mem _ hy)
    have e : Dc.kvs (k :: ks) (x :: xs) = (Sum.inr k, x.val) :: Dc.kvs ks xs := rfl
    have nk := hk k List.mem_cons_self
    have lk : k.cps.size ≤ 8 := (nameB_len nk).2
    have sk : k.cps.toList.all (fun c => decide (c < 16 ^ 8)) = true := by
      simp only [List.all_eq_true, decide_eq_true_eq]
      exact fun c hc => isL_small (List.all_eq_true.mp (nameB_all nk) c hc)
    rw [e]
    have kd : keyD (Sum.inr k) = .str k := rfl
    refine ⟨D :: Ds, .cons h1 t1, ?_, ?_, ?_, ?_⟩
    · simp only [List.map_cons, List.zip_cons_cons, kd, PyData.showableKv, PyData.showable, h2, t2, Bool.and_self]
    · simp only [List.map_cons, List.zip_cons_cons, kd, PyData.leavesShortKv, PyData.leavesShort, h3, t3, sk, Bool.and_self]
    · simp only [List.map_cons, List.zip_cons_cons, kd, PyData.bulkKv, PyData.bulk, Dc.sizeL]
      omega
    · simp only [List.map_cons, List.zip_cons_cons, kd, PyData.depthKv, PyData.depth, Dc.sizeL]
      have := Dc.size_pos x
      omega
theorem FinAll {H : Hp} : ∀ {xs : List Dc}, (∀ x ∈ xs, ∃ b, b + 10 ≤ 22 * x.size ∧ Fin1 H x.val b x.size) → FinL H (xs.map Dc.val) (22 * Dc.sizeL xs) (Dc.sizeL xs)
  | [], _ => FinL.nil.mono (Nat.zero_le _) (Nat.le_refl _)
  | x :: xs, hx => by
    obtain ⟨b, hb, h⟩ := hx x List.mem_cons_self
    have t := FinAll (H := H) (xs := xs) fun y hy => hx y (List.mem_cons_of_mem _ hy)
    have := FinL.cons (h.mono (Nat.le_refl _) (show x.size ≤ Dc.sizeL (x :: xs) by simp only [Dc.sizeL]; omega)) (t.mono (Nat.le_refl _) (show Dc.sizeL xs ≤ Dc.sizeL (x :: xs) by simp only [Dc.sizeL]; omega))
    exact this.mono (by simp only [Dc.sizeL]; omega) (Nat.le_refl _)
mutual
theorem Dc.fin {H : Hp} : ∀ d : Dc, d.ok → d.At H → ∃ b, b + 10 ≤ 22 * d.size ∧ Fin1 H d.val b d.size
  | .leaf v, ok, _ => by
    rcases (show LeafV v from ok) with ⟨i, rfl, hi⟩ | ⟨x, rfl, hx⟩
    · exact ⟨0, by simp [Dc.size], .int hi⟩
    · have l := txtB_len hx
      have a : (sgn x).all isL = true := by
        unfold txtB at hx
        simp only [Bool.and_eq_true] at hx
        exact hx.2
      exact ⟨12, by simp [Dc.size], .str a l⟩
  | .row a xs, ok, at_ => by
    simp only [Dc.ok] at ok
    simp only [Dc.At] at at_
    exact ⟨22 * Dc.sizeL xs, by simp only [Dc.size]; omega, (Fin1.lst at_.1 (FinAll (Dc.finL xs ok at_.2))).mono (Nat.le_refl _) (by simp only [Dc.size]; omega)⟩
  | .tab a ks xs, ok, at_ => by
    simp only [Dc.ok] at ok
    simp only [Dc.At] at at_
    obtain ⟨Ds, t1, t2, t3, t4, t5⟩ := FinKv at_.2.1 ok.1 (Dc.finL xs ok.2 at_.2.2.2)
    exact ⟨22 * Dc.sizeL xs, by simp only [Dc.size]; omega, .dict (((Dc.kvs ks xs).map fun (p : Key × V) => keyD p.1).zip Ds), Sees.dct at_.1 t1, by simpa [PyData.showable] using t2, by simpa [PyData.leavesShort] using t3, by simpa [PyData.bulk] using t4, by simp only [PyData.depth, Dc.size]; omega⟩
theorem Dc.finL {H : Hp} : ∀ xs : List Dc, Dc.okL xs → Dc.AtL H xs → ∀ x ∈ xs, ∃ b, b + 10 ≤ 22 * x.size ∧ Fin1 H x.val b x.size
  | [], _, _ => fun x hx => nomatch hx
  | y :: r, ok, at_ => by
    simp only [Dc.okL] at ok
    simp only [Dc.AtL] at at_
    intro x hx
    rcases List.mem_cons.mp hx with e | hx
    · rw [e]; exact Dc.fin y ok.1 at_.1
    · exact Dc.finL r ok.2 at_.2 x hx
end
end L2

set_option Elab.async false
set_option linter.all false
set_option maxRecDepth 100000
set_option maxHeartbeats 4000000
namespace L2
open PySem PySem.Spec PyProof.Rows
structure OdP (a : Addr) (o : Obj) (k v : V) (h : Heap) : Prop where
  ns : (a == sysModules) = false
  ho : h.get? a = some o
  ex : o.ExactDict
  dt : ∃ (ku vu : Value) (hs : Int) (ep : Nat), RelV k ku ∧ RelV v vu ∧ o.data = .dict #[⟨hs, ku, vu⟩] ep
def OdO (a : Addr) (o : Obj) (k v : V) : HO := .ext (OdP a o k v)
theorem od_ok {P : Program} {w : World} {H : Hp} {h : Heap} {a : Addr} {o : Obj} {k v : V} (p : OdP a o k v h) : ObjOk P w H h a (OdO a o k v) :=
  ⟨p, ⟨o, p.ho⟩, fun h1 h2 q st => ⟨q.ns, st o q.ho, q.ex, q.dt⟩⟩
theorem od_of {P : Program} {w : World} {H : Hp} {h : Heap} {a : Addr} {o : Obj} {k v : V} (ok : HOk P w H h) (e : H a = some (OdO a o k v)) : OdP a o k v h :=
  (show OdP a o k v h ∧ _ from ok a _ e).1
def ovK : Bool → V
  | true => .bl true
  | false => .non
def isO : Bool → Value → Bool
  | true, .bool true => true
  | false, .none => true
  | _, _ => false
theorem isO_shape {b : Bool} {v : Value} (h : isO b v = true) : (b = true ∧ v = .bool true) ∨ (b = false ∧ v = .none) := by
  cases b with
  | true =>
    cases v with
    | bool c => cases c with
      | true => exact .inl ⟨rfl, rfl⟩
      | false => cases h
    | _ => cases h
  | false =>
    cases v with
    | none => exact .inr ⟨rfl, rfl⟩
    | _ => cases h
theorem isO_rel {b : Bool} {v : Value} (h : isO b v = true) : RelV (ovK b) v := by
  rcases isO_shape h with ⟨rfl, rfl⟩ | ⟨rfl, rfl⟩ <;> exact rfl
theorem rel_isO {b : Bool} {v : Value} (h : RelV (ovK b) v) : isO b v = true := by
  cases b with
  | true => cases (show v = Value.bool true from h); rfl
  | false => cases (show v = Value.none from h); rfl
theorem ovK_flat (b : Bool) : flatV (ovK b) = true := by cases b <;> rfl
theorem ovK_eq (a b : Bool) : eqV (ovK a) (ovK b) = decide (a = b) := by cases a <;> cases b <;> rfl
def oddKind (prog : Program) (w : World) : PySem.KeyKind prog w Bool where
  is := isO
  hash := fun b => PySem.W.hashW w.params (if b then .bool true else .none)
  inj := fun v a b ha hb => by
    rcases isO_shape ha with ⟨rfl, rfl⟩ | ⟨rfl, rfl⟩ <;> rcases isO_shape hb with ⟨rfl, e⟩ | ⟨rfl, e⟩ <;> first | rfl | cases e
  byValue := fun k v h => by
    rcases isO_shape h with ⟨rfl, rfl⟩ | ⟨rfl, rfl⟩ <;> rfl
  pyHash := fun hv h => by
    rcases isO_shape hv with ⟨rfl, rfl⟩ | ⟨rfl, rfl⟩
    · exact PySem.W.pyHash_slot (T := "bool") rfl F.slot_bool_hash PySem.entry_int_hash (PySem.args_int_hash _) (PySem.beq_builtin_none _) (.inl rfl) (show wpAny _ _ (do ret (← mkInt 1)) _ _ _ from wpAny_bind (wpAny_mkInt (wpAny_pure ⟨_, _, rfl, h⟩)))
    · exact PySem.W.pyHash_slot (T := "NoneType") rfl F.slot_NoneType_hash F.entry_NoneType_hash (F.args_NoneType_hash_1 _) (PySem.beq_builtin_none _) (.inl rfl) (wpAny_bind (wpAny_pure (wpAny_bind (wpAny_mkInt (wpAny_pure ⟨_, _, rfl, h⟩)))))
  eqBool := fun {A E s a b u v Q} hu hv h => by
    have := eqAt_V (A := A) (s := s) (isO_rel hu) (isO_rel hv) (ovK_flat a) (ovK_flat b)
    rw [ovK_eq] at this
    exact this _ _ _ _ h
  «strs» := fun k x t v h => by
    rcases isO_shape h with ⟨rfl, e⟩ | ⟨rfl, e⟩ <;> cases e
def tDispO (tk tv : TE) : TE := fun σ H Q => ∀ p, H p = none → tPairs [(tk, tv)] σ (upd H p (.dK [])) fun ps H2 => H2 p = some (.dK []) ∧ ∃ (b : Bool) (v : V), ps = [(ovK b, v)] ∧ ∀ o, Q (.ref p) (upd H2 p (OdO p o (ovK b) v))
theorem pairs_nil {κ : Type} [DecidableEq κ] {P : Program} {w : World} {knd : PySem.KeyKind P w κ} {es : List DictEntry} (h : Pairs knd es []) : es = [] := by
  cases h; rfl
theorem pairs_one {κ : Type} [DecidableEq κ] {P : Program} {w : World} {knd : PySem.KeyKind P w κ} {es : List DictEntry} {k : κ} {v : Value} (h : Pairs knd es [(k, v)]) : ∃ e, es = [e] ∧ knd.is k e.key = true ∧ e.val = v := by
  cases h with
  | cons h1 h2 t => cases t; exact ⟨_, rfl, h1, h2⟩
theorem empty_kind {P : Program} {w : World} {h : Heap} {a : Addr} {κ κ' : Type} [DecidableEq κ] [DecidableEq κ'] {knd : PySem.KeyKind P w κ} {knd' : PySem.KeyKind P w κ'} (d : h.DictOf knd a []) : h.DictOf knd' a [] := by
  obtain ⟨o, es, ep, ho, hc, hd, hk, hp, hn⟩ := d
  have e : es = #[] := by
    have := pairs_nil hp
    exact Array.toList_eq_nil_iff.mp this
  subst e
  exact ⟨o, #[], ep, ho, hc, hd, fun x hx => by simp at hx, .nil, .nil⟩
theorem pe_dispO {X : Cx} {pos : Pos} {k v : Expr} {tk tv : TE} (h : PPs X pos [some k] [v] [(tk, tv)]) : PE X (.Dict [some k] [v] pos) (tDispO tk tv) := by
  intro pins s σ H Q I q
  have hn := I.hok.fresh (Nat.le_refl s.heap.objs.size)
  have I1 := I.laid (a := s.heap.objs.size) (o := .dK []) (h' := s.heap.push { cls := .type "dict", data := .dict #[] }) (t' := s.toks) (fun _ _ q => Heap.get?_push_of_some _ q) (Nat.le_refl _) (dk_empty s.heap I.big)
  refine wpAny_Dict_walk (knd := oddKind X.prog X.w) rfl rfl (by simp) (by simp) (thn (h pins _ σ _ _ I1 (q _ hn)) fun ws s2 ⟨ps, H2, I2, rel, e, b, v, ep, q2⟩ => ?_)
  subst ep
  obtain ⟨z, hd, vs0, r0, dd⟩ := dk_of I2.hok e
  cases r0
  cases rel with
  | @cons p q as bs hr t =>
    cases t
    obtain ⟨ku, vu⟩ := q
    refine ⟨[(b, vu)], ⟨rel_isO hr.1, rfl, trivial⟩, empty_kind dd, fun h' dd' hs => ?_⟩
    have mz : merged ([] : List (Bool × Value)) [(b, vu)] = [(b, vu)] := rfl
    rw [mz] at dd'
    obtain ⟨o, es, ep, ho, hc, hdt, hk, hp, hnd⟩ := dd'
    obtain ⟨en, e1, e2, e3⟩ := pairs_one hp
    have es1 : es = #[en] := by
      rw [← Array.toArray_toList (xs := es), e1]
    refine ⟨.ref s.heap.objs.size, _, d_write I2 (by rw [e]; exact True.intro) hs ⟨o, ho⟩ (od_ok ⟨hd, ho, hc, en.key, en.val, en.hash, ep, isO_rel e2, by rw [e3]; exact hr.2, by rw [hdt, es1]⟩), rfl, q2 o⟩
def tDispT (tk tv : TE) : TE := fun σ H Q => ∀ p, H p = none → tPairs [(tk, tv)] σ (upd H p (.dK [])) fun ps H2 => H2 p = some (.dK []) ∧ ∃ (t : Addr) (ks : List Key) (v : V), ps = [(.ref t, v)] ∧ H2 t = some (.tup (ks.map kV)) ∧ ∀ o, Q (.ref p) (upd H2 p (OdO p o (.ref t) v))
theorem pe_dispT {X : Cx} {pos : Pos} {k v : Expr} {tk tv : TE} (hu : X.A.units + 1 < cLine) (h : PPs X pos [some k] [v] [(tk, tv)]) : PE X (.Dict [some k] [v] pos) (tDispT tk tv) := by
  intro pins s σ H Q I q
  have hn := I.hok.fresh (Nat.le_refl s.heap.objs.size)
  have I1 := I.laid (a := s.heap.objs.size) (o := .dK []) (h' := s.heap.push { cls := .type "dict", data := .dict #[] }) (t' := s.toks) (fun _ _ q => Heap.get?_push_of_some _ q) (Nat.le_refl _) (dk_empty s.heap I.big)
  rw [arm_eval_Dict, zip_pairTrees [some k] [v] X.env pos rfl rfl, dictDisplay_pairs (pairTrees [some k] [v] X.env pos) (by simp [pairTrees]) (by simp [pairTrees])]
  refine wpAny_bind (wpAny_standAt (wpAny_bind ?_))
  unfold subDict
  refine wpAny_bind (wpAny_alloc ?_)
  refine wpAny_bind (wpAny_holding ?_)
  rw [if_pos (by simp [pairTrees])]
  refine wpAny_bind (thn (h pins _ σ _ _ I1 (q _ hn)) fun ws s2 ⟨ps, H2, I2, rel, e, t, ks, v, ep, et, q2⟩ => ?_)
  subst ep
  obtain ⟨z, hd, vs0, r0, dd⟩ := dk_of I2.hok e
  cases r0
  cases rel with
  | @cons p q as bs hr tl =>
    cases tl
    obtain ⟨ku, vu⟩ := q
    cases (show ku = Value.ref t from hr.1)
    obtain ⟨o0, es0, ep0, ho0, hc0, hd0, hk0, hp0, hn0⟩ := dd
    have e0 : es0 = #[] := Array.toList_eq_nil_iff.mp (pairs_nil hp0)
    subst e0
    refine wpAny_holding ?_
    rw [List.forIn_cons]
    refine wpAny_bind (wpAny_bind (wpAny_bind (wpAny_dictSet_heap (knd := tupleKind (mixKind X.prog X.w)) (xs := []) (hsz := Nat.zero_le _) (show (tupleKind (mixKind X.prog X.w)).room X.A from Nat.lt_of_succ_lt hu) (key_of I2.hok et) ⟨o0, #[], ep0, ho0, hc0, hd0, rfl, (fun x hx => by cases hx), List.Pairwise.nil⟩ fun h' dd' hs => wpAny_pure ?_)))
    dsimp only
    rw [List.forIn_nil]
    obtain ⟨o, es, ep, ho, hc, hdt, he, hk, hnd⟩ := dd'
    refine wpAny_pure (wpAny_pure (wpAny_pure (wpAny_pure ?_)))
    have es1 : ∃ hs : Int, es = #[⟨hs, .ref t, vu⟩] := by
      have := he
      exact ⟨_, by rw [← Array.toArray_toList (xs := es), he]; rfl⟩
    obtain ⟨hsh, es1⟩ := es1
    exact ⟨.ref s.heap.objs.size, _, d_write I2 (by rw [e]; exact True.intro) hs ⟨o, ho⟩ (od_ok (k := .ref t) (v := v) ⟨hd, ho, hc, .ref t, vu, hsh, ep, rfl, hr.2, by rw [hdt, es1]⟩), rfl, q2 o⟩
end L2

set_option Elab.async false
set_option linter.all false
set_option maxRecDepth 100000
set_option maxHeartbeats 4000000
namespace L2
open PySem PySem.Spec PyProof.Rows
section
variable {prog : Program} {w : World} {A : Around} {E : Value → Shared → Prop} {s : Shared} {it d : Addr} {o : Obj} {en : DictEntry} {ep : Nat}
theorem iter_raw {Q : Value → Shared → Prop} (hd : (d == sysModules) = false) (ho : s.heap.get? d = some o) (hc : o.ExactDict) (hdat : o.data = .dict #[en] ep)
    (hQ : Q (.ref s.heap.objs.size) { s with heap := s.heap.push { cls := .type "dict_keyiterator", data := .fields #[.ref d, .int 0 0, .int 1 0, .int ep 0] } }) : wpAny (model prog w) A (pyIter (.ref d)) Q E s := by
  have hT : s.TypeIs (.ref d) "dict" := ⟨o, ho, hc.1⟩
  refine wpAny_pyIter_slot hT F.slot_dict_iter (wpAny_call_entry F.slot_dict_iter hT F.entry_dict_iter ?_ (F.args_dict_iter_1 _))
  unfold Builtin.«dict.__iter__»
  refine wpAny_bind ?_
  unfold Builtin.Dict.dictSlotNone
  refine wpAny_bind (wpAny_notOrdered_dict hT ?_)
  show wpAny _ _ (pure (Value.ref d)) _ _ s
  refine wpAny_pure ?_
  show wpAny _ _ (Builtin.Dict.showsAll d >>= _) _ _ s
  unfold Builtin.Dict.showsAll
  rw [if_neg (by rw [hd]; exact Bool.false_ne_true)]
  refine wpAny_bind (wpAny_pure ?_)
  refine wpAny_bind (wpAny_dictEntries ho hdat ?_)
  refine wpAny_bind (wpAny_dictEpoch ho hdat ?_)
  refine wpAny_bind (wpAny_newObj_type (wpAny_pure ⟨_, rfl, "dict_keyiterator", _, ⟨_, Heap.get?_push_size _ rfl, rfl⟩, F.slot_dict_keyiterator_next.lookup, ?_⟩))
  simpa [rawInt] using hQ
theorem next_raw {Q : Option Value → Shared → Prop} (hit : s.heap.IsKeyIter it d 0 1 ep) (hod : s.heap.get? d = some o) (hdd : o.data = .dict #[en] ep)
    (hQ : ∀ h', h'.IsKeyIter it d 1 1 ep → Heap.SameBut it s.heap h' → Q (some en.key) { s with heap := h' }) : wpAny (model prog w) A (pyNext (.ref it)) Q E s := by
  obtain ⟨oi, ho, hc, hd⟩ := id hit
  unfold pyNext
  refine wpAny_bind (wpAny_attempt (wpAny_callSpecial?_slot (name := Str.ofString "__next__") hit.typeIs F.slot_dict_keyiterator_next
    (wpAny_call_entry F.slot_dict_keyiterator_next hit.typeIs F.entry_dict_keyiterator_next ?_ (F.args_dict_keyiterator_next_1 _))))
  refine wpAny_bind (wpAny_pure ?_)
  refine wpAny_bind ?_
  refine wpAny_bind ?_
  first | refine wpAny_bind (wpAny_typeNameOfWhole_keyiter hit.typeIs (wpAny_pure ?_)) | refine wpAny_bind (wpAny_typeNameOf_keyiter hit.typeIs (wpAny_pure ?_))
  refine wpAny_bind (wpAny_fieldsOf ho hd ?_)
  have hown : Builtin.Dict_items.ownsTuple "dict_keyiterator" = false := by decide
  simp only [hown, Bool.false_eq_true, if_false]
  show wpAny _ _ (if (Value.ref d == Value.none) = true then _ else _) _ _ s
  rw [if_neg (show ¬ ((Value.ref d == Value.none) = true) from Bool.false_ne_true)]
  refine wpAny_bind (wpAny_pure ?_)
  refine wpAny_bind (wpAny_dictEntries hod hdd ?_)
  rw [if_neg (by simp)]
  refine wpAny_bind (wpAny_pure ?_)
  refine wpAny_bind (wpAny_dictEpoch hod hdd ?_)
  rw [if_neg (by simp)]
  refine wpAny_pure ?_
  simp only [show ¬ (((0 : Nat) : Int) < 0) from by omega, if_false, Int.toNat_natCast, show (#[en] : Array DictEntry)[0]? = some en from rfl]
  refine wpAny_bind ?_
  first | refine wpAny_bind (wpAny_typeNameOfWhole_keyiter hit.typeIs (wpAny_pure ?_)) | refine wpAny_bind (wpAny_typeNameOf_keyiter hit.typeIs (wpAny_pure ?_))
  refine wpAny_bind (wpAny_isOneOf_keyiter hit.typeIs ?_)
  show wpAny _ _ (setField (.ref it) 1 (rawInt (((0 : Nat) : Int) + 1)) >>= _) _ _ s
  refine wpAny_bind (wpAny_setField ho hd (by simp) ?_)
  have hit' : (s.heap.update it (Obj.mapFields (·.setIfInBounds 1 (rawInt (((0 : Nat) : Int) + 1))))).IsKeyIter it d 1 1 ep :=
    ⟨_, Heap.get?_update_self _ ho (Obj.isFreed_of_fields (Obj.data_mapFields hd _)), (Obj.cls_mapFields ..).trans hc, by rw [Obj.data_mapFields hd]; simp [rawInt]⟩
  refine wpAny_bind (wpAny_holding ?_)
  refine wpAny_bind (wpAny_isOneOf_keyiter (s := { s with heap := s.heap.update it (Obj.mapFields (·.setIfInBounds 1 (rawInt (((0 : Nat) : Int) + 1)))) }) hit'.typeIs ?_)
  show wpAny _ _ (pure en.key) _ _ _
  exact wpAny_pure (wpAny_pure ⟨_, rfl, wpAny_pure (hQ _ hit' (Heap.SameBut.update ..))⟩)
theorem end_raw {Q : Option Value → Shared → Prop} (hh : A.handled = none) (hit : s.heap.IsKeyIter it d 1 1 ep) (hod : s.heap.get? d = some o) (hdd : o.data = .dict #[en] ep)
    (hQ : ∀ h', Heap.ExtBut it s.heap h' → Q none { s with heap := h' }) : wpAny (model prog w) A (pyNext (.ref it)) Q E s := by
  obtain ⟨oi, ho, hc, hd⟩ := id hit
  unfold pyNext
  refine wpAny_bind (wpAny_attempt (wpAny_callSpecial?_slot (name := Str.ofString "__next__") hit.typeIs F.slot_dict_keyiterator_next
    (wpAny_call_entry F.slot_dict_keyiterator_next hit.typeIs F.entry_dict_keyiterator_next ?_ (F.args_dict_keyiterator_next_1 _))))
  refine wpAny_bind (wpAny_pure ?_)
  refine wpAny_bind ?_
  refine wpAny_bind ?_
  first | refine wpAny_bind (wpAny_typeNameOfWhole_keyiter hit.typeIs (wpAny_pure ?_)) | refine wpAny_bind (wpAny_typeNameOf_keyiter hit.typeIs (wpAny_pure ?_))
  refine wpAny_bind (wpAny_fieldsOf ho hd ?_)
  have hown : Builtin.Dict_items.ownsTuple "dict_keyiterator" = false := by decide
  simp only [hown, Bool.false_eq_true, if_false]
  show wpAny _ _ (if (Value.ref d == Value.none) = true then _ else _) _ _ s
  rw [if_neg (show ¬ ((Value.ref d == Value.none) = true) from Bool.false_ne_true)]
  refine wpAny_bind (wpAny_pure ?_)
  refine wpAny_bind (wpAny_dictEntries hod hdd ?_)
  rw [if_neg (by simp)]
  refine wpAny_bind (wpAny_pure ?_)
  refine wpAny_bind (wpAny_dictEpoch hod hdd ?_)
  rw [if_neg (by simp)]
  refine wpAny_pure ?_
  simp only [show ¬ (((1 : Nat) : Int) < 0) from by omega, if_false, Int.toNat_natCast, show (#[en] : Array DictEntry)[1]? = none from rfl]
  refine wpAny_bind ?_
  first | refine wpAny_bind (wpAny_typeNameOfWhole_keyiter hit.typeIs (wpAny_pure ?_)) | refine wpAny_bind (wpAny_typeNameOf_keyiter hit.typeIs (wpAny_pure ?_))
  show wpAny _ _ (setField (.ref it) 0 .none >>= _) _ _ s
  refine wpAny_bind (wpAny_setField ho hd (by simp) ?_)
  show wpAny _ _ (newExc (.type "StopIteration") [] >>= _) _ _ _
  refine wpAny_bind ?_
  simp only [newExc, newTuple]
  refine wpAny_bind (wpAny_newObj_type ?_ (by size_fits))
  refine wpAny_bind (m := firstArgMember _ _) (wpAny_of_eq (a := Value.none) (by first | rfl | (simp only [firstArgMember]; rfl)) ?_)
  refine wpAny_newObj_type ?_ (by size_fits)
  simp only [raiseNew]
  refine wpAny_bind (wpAny_handled ?_)
  rw [show A.in1.handled = none from hh]
  refine wpAny_bind (wpAny_pure (wpAny_throw ?_))
  refine wpAny_bind (wpAny_isInstance (T := "StopIteration") (b := true) ⟨_, Heap.get?_push_size _ rfl, rfl⟩ isSubtype_stop ?_)
  exact wpAny_pure (hQ _ (((Heap.SameBut.update ..).extBut.push _).push _))
end
def Ito (a : Addr) (o : Obj) (k v : V) : It := ⟨fun i H => H a = some (OdO a o k v) ∧ i = 0, fun i H x H' => H' = H ∧ x = k, fun i H => H a = some (OdO a o k v) ∧ i = 1⟩
def iOdd (tl : TE) : TI := fun σ H R => tl σ H fun x H1 => ∃ a o k v, x = .ref a ∧ H1 a = some (OdO a o k v) ∧ R (Ito a o k v) H1
theorem turn_odd {P : Program} {w : World} {K : PySem.W.Frag} {tg : Expr} {a it : Addr} {o : Obj} {k v : V} {ku vu : Value} {hs : Int} {ep : Nat} (rk : RelV k ku) (hdt : o.data = .dict #[⟨hs, ku, vu⟩] ep) :
    Turn P w K tg (Ito a o k v) [it] it (fun i h => h.IsKeyIter it a i 1 ep) where
  mem := by simp
  obj := fun i h st b hb => by
    have e : b = it := by simpa using hb
    subst e
    obtain ⟨ob, h1, _, h3⟩ := st
    exact ⟨ob, h1, fun v z => by rw [h3] at z; cases z⟩
  keep := fun i h h' st k => st.at fun ob e => k it (by simp) ob e
  item := fun X hp hw _ hc i pins s σ H E I hf st go => by
    subst hp hw
    have f := hf it (by simp)
    obtain ⟨ga, rfl⟩ := go
    refine next_raw st (od_of I.hok ga).ho hdt fun h' st' hs' => ?_
    obtain ⟨ob, h1, h2, h3⟩ := st'
    refine ⟨ku, rfl, go_of (o := ob) h1 h2 h3 (by decide) ⟨k, H, I.turned (fun b ob' hb e => hs'.extBut b ob' hb e) f.1 f.2.1 f.2.2.2.1 f.2.2.2.2.1 f.2.2.2.2.2, rk, ⟨rfl, rfl⟩, ⟨ob, h1, h2, h3⟩, fun b hb => ?_⟩⟩
    have e : b = it := by simpa using hb
    subst e
    exact f.1
  done := fun X hp hw _ hc i pins s σ H E I hf st stop => by
    subst hp hw
    have f := hf it (by simp)
    obtain ⟨ga, rfl⟩ := stop
    refine end_raw (I.ok.hd hc) st (od_of I.hok ga).ho hdt fun h' kept => ?_
    exact ⟨rfl, I.turned (fun b ob hb e => kept b ob hb e) f.1 f.2.1 f.2.2.2.1 f.2.2.2.2.1 f.2.2.2.2.2⟩
  self := fun A i s Q E st hQ => wpAny_pyIter_keyiter st hQ
section
variable {X : Cx} {tg : Expr}
theorem pi_odd {l : Expr} {tl : TE} (hl : PE X l tl) : PI X tg l (iOdd tl) := by
  intro pins s σ H R I h
  refine thn (hl pins s σ H _ I h) fun v s1 zq => zq.elim fun x H1 I1 r1 q1 => ?_
  obtain ⟨a, o, k, v, rfl, ha, q⟩ := q1
  cases r1
  obtain ⟨ns, ho, hc, ku, vu, hs, ep, rk, rv, hdt⟩ := od_of I1.hok ha
  refine iter_raw ns ho hc hdt ⟨s1.heap.objs.size, [s1.heap.objs.size], _, Ito a o k v, H1, rfl, I1.kept (t' := s1.toks) fun b ob e => Heap.get?_push_of_some _ e,
    turn_odd rk hdt, ⟨_, Heap.get?_push_size _ rfl, rfl, rfl⟩, fun b hb => ?_, q⟩
  have e : b = s1.heap.objs.size := by simpa using hb
  subst e
  exact I1.fpOk (Nat.le_refl _) I1.fresh
inductive rIsiO (xs : List V) (H : Hp) (Q : VK) : Prop
  | mk (a : Addr) (o : Obj) (k v : V) (c : String) (e : xs = [.ref a, .ty c]) (hc : isiC c = true) (h : H a = some (OdO a o k v)) (q : Q (.bl (isiB "dict" c)) H) : rIsiO xs H Q
def rIsiNO : List V → Hp → VK → Prop := fun xs H Q => rIsi xs H Q ∨ rIsiO xs H Q
theorem call_isiNO : CallR X (.builtin "isinstance") rIsiNO := by
  intro pins s σ H xs us Q I r h
  rcases h with h | h
  · exact call_isiN pins s σ H xs us Q I r h
  · obtain ⟨a, o, k, v, c, rfl, hc, h, q⟩ := h
    obtain ⟨u, w', rfl, ru, rw'⟩ := vals2 r
    cases rw'
    cases (show u = Value.ref a from ru)
    have p := od_of I.hok h
    have kt : PySem.W.kitOne X.K (.type "dict") (.type c) = some (isiB "dict" c) := kit_isi (H := upd H 0 (.dK [])) (v := .ref 0) (.dK (.inl upd_same)) hc
    exact PySem.W.kia_one PySem.W.kitx_dict I.kIn ⟨o, p.ho, p.ex.1⟩ kt (fun z => nomatch z) fun tk => ⟨.bl _, H, I.tok tk, rfl, q⟩
def revS (z : Str) : Str := Txt.sliceBy z none none (-1, 0)
theorem sliceBy_tok (z : Str) (t : Tok) : Txt.sliceBy z none none (-1, t) = revS z := by
  refine str_ext_getD ((step_rev_len z t).trans (step_rev_len z 0).symm) fun i hi => ?_
  rw [step_rev_len] at hi
  rw [step_rev_getD z t i hi]
  exact (step_rev_getD z 0 i hi).symm
inductive tRevI (te : TE) (ts : TO) (σ : St) (H : Hp) (Q : VK) : Prop
  | mk (h : te σ H fun x H1 => ts σ H1 fun l H2 => ∃ z : Str, x = .str z ∧ l = some (-1) ∧ z.length ≤ sizeLine ∧ Q (.str (revS z)) H2) : tRevI te ts σ H Q
def tRev (te : TE) (ts : TO) : TE := fun σ H Q => tRevI te ts σ H Q
theorem pe_rev {e st : Expr} {te : TE} {ts : TO} {p2 pos : Pos} (he : PE X e te) (hs : PO X (some st) ts) : PE X (.Subscript e (.Slice none none (some st) p2) pos) (tRev te ts) := by
  intro pins s σ H Q I h
  obtain ⟨h⟩ := h
  refine Subscript_ (thn (he pins s σ H _ I h) fun v s1 zq => zq.elim fun x H1 I1 r1 q1 => ?_)
  refine wpAny_Slice ?_
  rw [evalPart_none]
  refine wpAny_pure ?_
  refine wpAny_pure ?_
  refine thn (hs pins s1 σ H1 _ I1 q1) fun vs s3 ⟨l, H3, I3, pl, q3⟩ => ?_
  obtain ⟨z, rfl, rfl, hz, q⟩ := q3
  obtain ⟨t, rfl⟩ := r1
  cases pl with
  | int j tj =>
    have I4 : Inv X pins σ H3 { s3 with heap := s3.heap.push { cls := .type "slice", data := .fields #[.none, .none, .int (-1) tj] } } := I3.kept (t' := s3.toks) fun b ob q => Heap.get?_push_of_some _ q
    have fin : ∀ t' k, EP X pins σ Q (.str (revS z) t') { s3 with heap := s3.heap.push { cls := .type "slice", data := .fields #[.none, .none, .int (-1) tj] }, toks := k } := fun t' k => ⟨.str _, H3, I4.tok k, ⟨t', rfl⟩, q⟩
    have lz : (revS z).length ≤ sizeLine := by rw [show (revS z).length = z.length from step_rev_len z 0]; exact hz
    show wpAny (model X.prog X.w) X.A (subscriptTail e (.Slice none none (some st) p2) (.str z t) (.ref s3.heap.objs.size)) (EP X pins σ Q) X.xe { s3 with heap := s3.heap.push { cls := .type "slice", data := .fields #[.none, .none, .int (-1) tj] } }
    refine tail_any (ops := [.ref s3.heap.objs.size, .str z t]) (typeIs_str _ _ _) F.slot_str_getitem.lookup ?_ (by with_unfolding_all rfl)
    refine wpAny_getItem_str_slice (l := none) (u := none) (st := some (-1, tj)) (Heap.IsSliceOf.new ..) rfl (post_val_or_str ?_)
    have e := sliceBy_tok z tj
    unfold Txt.sliceBy at e
    rw [e]
    exact ⟨lz, fin⟩
inductive rReprV (xs : List V) (H : Hp) (Q : VK) : Prop
  | mk (v : V) (d : PyData) (e : xs = [v]) (h : Sees H v d) (s : d.showable = true) (z : d.shown.length ≤ sizeLine) (dp : d.depth ≤ 150) (q : Q (.str d.shown) H) : rReprV xs H Q
theorem call_reprV {k : Nat} (hr : Room k X.A) (hS : ∃ o, X.K.lookup sysModules = some o) : CallR X (.builtin "repr") rReprV := by
  intro pins s σ H xs us Q I r h
  obtain ⟨v, d, rfl, hs, sh, z, dp, q⟩ := h
  obtain ⟨u, rfl, ru⟩ := vals1 r
  obtain ⟨as, ra, ha⟩ := hs.reads I.hok ru
  have no : sysModules ∉ as := fun m => by
    obtain ⟨o, ho⟩ := ha _ m
    obtain ⟨o', lk⟩ := hS
    have := (I.bs _ _ (I.ok.mod.kin _ _ lk)).2
    rw [ho] at this
    cases this
  have un := hr.un
  have fin : ∀ t tk, EP X pins σ Q (.str d.shown t) { s with toks := tk } := fun t tk => ⟨.str _, H, I.tok tk, ⟨t, rfl⟩, q⟩
  have big : ∀ a, u = .ref a → wpAny (model X.prog X.w) X.A (call (.builtin "repr") [u]) (EP X pins σ Q) X.xe s := fun a e => by
    subst e
    exact repr_of_reads' (h₀ := s.heap) ra sh (fun _ => no) hr.gd (by omega) (fun _ _ e => e) (fun h' u tk hk => ⟨.str d.shown, H, I.kept (t' := tk) hk, ⟨_, rfl⟩, q⟩) z
  cases ra with
  | none => exact PySem.P.repr_of_none (fin _ _)
  | bool b => exact PySem.P.repr_of_bool (by cases b <;> exact fin _ _)
  | int i t => exact PySem.P.repr_of_int (by simpa [PyData.showable] using sh) (fin _ _)
  | str x t => exact PySem.P.repr_of_str (fin _ _) z
  | _ => exact big _ rfl
end
end L2

set_option Elab.async false
set_option linter.all false
set_option maxRecDepth 100000
set_option maxHeartbeats 4000000
namespace L2
open PySem PySem.Spec PyProof.Rows
inductive Uns (H : Hp) : V → Prop
  | bl (b : Bool) : Uns H (.bl b)
  | non : Uns H .non
  | tup {a : Addr} {xs : List V} (h : H a = some (.tup xs)) : Uns H (.ref a)
  | txt {x : Str} (l : x.length ≤ 20) (h : txtB x = false) : Uns H (.str x)
  | key {a : Addr} {k : Key} {v : V} (h : Rd H a (.dK [(k, v)])) (n : nameV (kV k) = false) (s : Short (kV k)) : Uns H (.ref a)
  | odd {a : Addr} {o : Obj} {k v : V} {T : String} (h : H a = some (OdO a o k v)) (t : TyN H k T) (n : nameV k = false) (s : Short k) : Uns H (.ref a)
theorem Uns.up {H H' : Hp} {v : V} (h : Uns H v) (s : Same H H') : Uns H' v := by
  cases h with
  | bl b => exact .bl b
  | non => exact .non
  | tup h => exact .tup (s _ _ h)
  | txt l h => exact .txt l h
  | key h n z => exact .key (h.up (s _)) n z
  | odd h t n z => exact .odd (s _ _ h) (t.same s) n z
inductive Node (H : Hp) : V → List V → Prop
  | leaf {v : V} (h : LeafV v) : Node H v []
  | row {a : Addr} {xs : List V} (h : Rd H a (.lst xs)) : Node H (.ref a) xs
  | tab {a : Addr} {kvs : List (Key × V)} {ks : List Str} (h : Rd H a (.dK kvs)) (hk : kvs.map (·.1) = ks.map Sum.inr) (nd : ks.Nodup) (nm : ∀ k ∈ ks, nameB k = true) (l : kvs.length < 64) : Node H (.ref a) (kvs.map (·.2))
theorem Node.up {H H' : Hp} {v : V} {its : List V} (h : Node H v its) (s : Same H H') : Node H' v its := by
  cases h with
  | leaf h => exact .leaf h
  | row h => exact .row (h.up (s _))
  | tab h hk nd nm l => exact .tab (h.up (s _)) hk nd nm l
mutual
inductive Tr (H : Hp) : Bool → Nat → Nat → V → Prop
  | odd {k : Nat} {v : V} (h : Uns H v) (f : Fin1 H v 78 3) : Tr H false 4 k v
  | node {b : Bool} {n k : Nat} {v : V} {its : List V} (h : Node H v its) (t : Trs H b n k its) : Tr H b (n + 1) (k + 1) v
inductive Trs (H : Hp) : Bool → Nat → Nat → List V → Prop
  | nil {k : Nat} : Trs H true 0 k []
  | cons {b c : Bool} {n m k : Nat} {v : V} {vs : List V} (h : Tr H b n k v) (t : Trs H c m k vs) : Trs H (b && c) (n + m) k (v :: vs)
end
theorem Tr.cast {H : Hp} {b b' : Bool} {n n' k : Nat} {v : V} (h : Tr H b n k v) (e : b = b') (f : n = n') : Tr H b' n' k v := by subst e f; exact h
theorem Trs.cast {H : Hp} {b b' : Bool} {n n' k : Nat} {vs : List V} (h : Trs H b n k vs) (e : b = b') (f : n = n') : Trs H b' n' k vs := by subst e f; exact h
theorem Fin1.up {H H' : Hp} {v : V} {b n : Nat} (h : Fin1 H v b n) (s : Same H H') : Fin1 H' v b n := by
  obtain ⟨D, h1, h2⟩ := h
  exact ⟨D, h1.up s, h2⟩
mutual
theorem Tr.up {H H' : Hp} (s : Same H H') : ∀ {b : Bool} {n k : Nat} {v : V}, Tr H b n k v → Tr H' b n k v
  | _, _, _, _, .odd h f => .odd (h.up s) (f.up s)
  | _, _, _, _, .node h t => .node (h.up s) (Trs.up s t)
theorem Trs.up {H H' : Hp} (s : Same H H') : ∀ {b : Bool} {n k : Nat} {vs : List V}, Trs H b n k vs → Trs H' b n k vs
  | _, _, _, _, .nil => .nil
  | _, _, _, _, .cons h t => .cons (Tr.up s h) (Trs.up s t)
end
mutual
theorem Tr.deeper {H : Hp} {j : Nat} : ∀ {b : Bool} {n k : Nat} {v : V}, Tr H b n k v → k ≤ j → Tr H b n j v
  | _, _, _, _, .odd h f, _ => .odd h f
  | _, _, k + 1, _, .node h t, l => by
    obtain ⟨i, rfl⟩ : ∃ i, j = i + 1 := ⟨j - 1, by omega⟩
    exact .node h (Trs.deeper (j := i) t (by omega))
theorem Trs.deeper {H : Hp} {j : Nat} : ∀ {b : Bool} {n k : Nat} {vs : List V}, Trs H b n k vs → k ≤ j → Trs H b n j vs
  | _, _, _, _, .nil, _ => .nil
  | _, _, _, _, .cons h t, l => .cons (Tr.deeper h l) (Trs.deeper t l)
end
theorem Tr.pos {H : Hp} {b : Bool} {n k : Nat} {v : V} (h : Tr H b n k v) : 1 ≤ n := by
  cases h with
  | odd => decide
  | node => omega
theorem Trs.len {H : Hp} : ∀ {b : Bool} {n k : Nat} {vs : List V}, Trs H b n k vs → vs.length ≤ n
  | _, _, _, _, .nil => Nat.le_refl _
  | _, _, _, _, .cons h t => by
    have := Trs.len t
    have := h.pos
    rw [List.length_cons]; omega
theorem Trs.append {H : Hp} {c : Bool} {m k : Nat} {ws : List V} : ∀ {b : Bool} {n : Nat} {vs : List V}, Trs H b n k vs → Trs H c m k ws → Trs H (b && c) (n + m) k (vs ++ ws)
  | _, _, [], t, u => by cases t; exact u.cast rfl (Nat.zero_add m).symm
  | _, _, v :: vs, t, u => by
    cases t with
    | cons h t => exact (Trs.cons h (Trs.append t u)).cast (Bool.and_assoc ..).symm (by omega)
theorem Trs.split {H : Hp} {k : Nat} {ws : List V} : ∀ {b : Bool} {n : Nat} {vs : List V}, Trs H b n k (vs ++ ws) → ∃ c1 m1 c2 m2, Trs H c1 m1 k vs ∧ Trs H c2 m2 k ws ∧ b = (c1 && c2) ∧ n = m1 + m2
  | b, n, [], t => ⟨true, 0, b, n, .nil, t, rfl, (Nat.zero_add n).symm⟩
  | _, _, v :: vs, t => by
    cases t with
    | @cons b1 _ n1 _ _ _ _ h t =>
      obtain ⟨c1, m1, c2, m2, t1, t2, e1, e2⟩ := Trs.split (vs := vs) t
      exact ⟨b1 && c1, n1 + m1, c2, m2, .cons h t1, t2, by rw [e1, Bool.and_assoc], by omega⟩
theorem Trs.one {H : Hp} {b : Bool} {n k : Nat} {v : V} (h : Tr H b n k v) : Trs H b n k [v] := (Trs.cons h .nil).cast (Bool.and_true b) rfl
theorem Trs.one' {H : Hp} {b : Bool} {n k : Nat} {v : V} (h : Trs H b n k [v]) : Tr H b n k v := by
  cases h with
  | cons h t => cases t; exact h.cast (Bool.and_true _).symm rfl
theorem Trs.perm {H : Hp} {k : Nat} {vs ws : List V} (p : vs.Perm ws) : ∀ {b : Bool} {n : Nat}, Trs H b n k vs → Trs H b n k ws := by
  induction p with
  | nil => exact fun t => t
  | cons x _ ih => intro b n t; cases t with | cons h t => exact .cons h (ih t)
  | swap x y l =>
    intro b n t
    cases t with
    | cons h t => cases t with
      | cons h2 t => exact (Trs.cons h2 (.cons h t)).cast (Bool.and_left_comm ..) (by omega)
  | trans _ _ i1 i2 => exact fun t => i2 (i1 t)
theorem Dc.node {H : Hp} {d : Dc} (at_ : d.At H) (ok : d.ok) (sl : d.slim) : Node H d.val (d.kids.map Dc.val) := by
  cases d with
  | leaf v => exact .leaf ok
  | row a xs => simp only [Dc.At] at at_; exact .row at_.1
  | tab a ks xs =>
    simp only [Dc.At] at at_
    simp only [Dc.ok] at ok
    simp only [Dc.slim] at sl
    have kk := Dc.kvs_keys (ks := ks) (xs := xs) at_.2.1
    have kl : (Dc.kvs ks xs).length = ks.length := by
      have := congrArg List.length kk
      simpa using this
    have vv : (Dc.kvs ks xs).map (·.2) = xs.map Dc.val := by
      unfold Dc.kvs
      rw [List.map_map]
      show ((ks.zip (xs.map Dc.val)).map fun p => p.2) = _
      exact List.map_snd_zip (by rw [List.length_map, at_.2.1]; exact Nat.le_refl _)
    have := Node.tab (H := H) (a := a) (ks := ks) at_.1 kk at_.2.2.1 ok.1 (by rw [kl, at_.2.1]; exact sl.1)
    rw [vv] at this
    exact this
mutual
theorem Dc.tr {H : Hp} : ∀ d : Dc, d.ok → d.At H → d.slim → Tr H true d.size d.deep d.val
  | .leaf v, ok, at_, sl => .node (its := []) (.leaf ok) .nil
  | .row a xs, ok, at_, sl => by
    have nd := Dc.node at_ ok sl
    simp only [Dc.ok] at ok
    simp only [Dc.At] at at_
    simp only [Dc.slim] at sl
    have := Tr.node nd (Dc.trL xs ok at_.2 sl (Nat.le_refl _))
    simp only [Dc.size, Dc.deep]
    rw [Nat.add_comm 1 (Dc.deepL xs)]
    exact this.cast rfl (Nat.add_comm ..)
  | .tab a ks xs, ok, at_, sl => by
    have nd := Dc.node at_ ok sl
    simp only [Dc.ok] at ok
    simp only [Dc.At] at at_
    simp only [Dc.slim] at sl
    have := Tr.node nd (Dc.trL xs ok.2 at_.2.2.2 sl.2 (Nat.le_refl _))
    simp only [Dc.size, Dc.deep]
    rw [Nat.add_comm 1 (Dc.deepL xs)]
    exact this.cast rfl (Nat.add_comm ..)
theorem Dc.trL {H : Hp} {K : Nat} : ∀ xs : List Dc, Dc.okL xs → Dc.AtL H xs → Dc.slimL xs → Dc.deepL xs ≤ K → Trs H true (Dc.sizeL xs) K (xs.map Dc.val)
  | [], _, _, _, _ => .nil
  | x :: r, ok, at_, sl, l => by
    simp only [Dc.okL] at ok
    simp only [Dc.AtL] at at_
    simp only [Dc.slimL] at sl
    simp only [Dc.deepL] at l
    simp only [Dc.sizeL]
    exact .cons ((Dc.tr x ok.1 at_.1 sl.1).deeper (by omega)) (Dc.trL r ok.2 at_.2 sl.2 (by omega))
end
theorem kv_fin {H : Hp} : ∀ {kvs : List (Key × V)} {ks : List Str} {Ds : List PyData}, kvs.map (·.1) = ks.map Sum.inr → (∀ k ∈ ks, nameB k = true) → Ds.length = kvs.length → PyData.showableAll Ds = true → PyData.leavesShortAll 2000 Ds = true →
    PyData.showableKv ((kvs.map fun p => keyD p.1).zip Ds) = true ∧ PyData.leavesShortKv 2000 ((kvs.map fun p => keyD p.1).zip Ds) = true ∧ PyData.bulkKv ((kvs.map fun p => keyD p.1).zip Ds) ≤ PyData.bulkAll Ds + 9 * kvs.length ∧ PyData.depthKv ((kvs.map fun p => keyD p.1).zip Ds) ≤ PyData.depthAll Ds
  | [], _, [], _, _, _, _, _ => ⟨rfl, rfl, Nat.zero_le _, Nat.zero_le _⟩
  | (k, v) :: kvs, [], _, h, _, _, _, _ => by simp at h
  | (k, v) :: kvs, x :: ks, D :: Ds, h, nm, l, s1, s2 => by
    simp only [List.map_cons, List.cons.injEq] at h
    obtain ⟨e, h⟩ := h
    subst e
    simp only [PyData.showableAll, Bool.and_eq_true] at s1
    simp only [PyData.leavesShortAll, Bool.and_eq_true] at s2
    obtain ⟨i1, i2, i3, i4⟩ := kv_fin (H := H) (kvs := kvs) (ks := ks) (Ds := Ds) h (fun y hy => nm y (List.mem_cons_of_mem _ hy)) (by simpa using l) s1.2 s2.2
    have nk := nm x List.mem_cons_self
    have lk : x.cps.size ≤ 8 := (nameB_len nk).2
    have sk : x.cps.toList.all (fun c => decide (c < 16 ^ 8)) = true := by
      simp only [List.all_eq_true, decide_eq_true_eq]
      exact fun c hc => isL_small (List.all_eq_true.mp (nameB_all nk) c hc)
    have kd : keyD (Sum.inr x) = .str x := rfl
    refine ⟨?_, ?_, ?_, ?_⟩
    · simp only [List.map_cons, List.zip_cons_cons, kd, PyData.showableKv, PyData.showable, s1.1, i1, Bool.and_self]
    · simp only [List.map_cons, List.zip_cons_cons, kd, PyData.leavesShortKv, PyData.leavesShort, s2.1, i2, sk, Bool.and_self]
    · simp only [List.map_cons, List.zip_cons_cons, kd, PyData.bulkKv, PyData.bulk, PyData.bulkAll, List.length_cons]
      omega
    · simp only [List.map_cons, List.zip_cons_cons, kd, PyData.depthKv, PyData.depth, PyData.depthAll]
      omega
  | (k, v) :: kvs, _, [], _, _, l, _, _ => by simp at l
  | [], _, D :: Ds, _, _, l, _, _ => by simp at l
theorem Node.fin {H : Hp} {v : V} {its : List V} {k B : Nat} (h : Node H v its) (t : ∃ Ds, SeesAll H its Ds ∧ PyData.showableAll Ds = true ∧ PyData.leavesShortAll 2000 Ds = true ∧ PyData.bulkAll Ds + 9 * its.length ≤ B ∧ PyData.depthAll Ds ≤ k) : Fin1 H v (B + 12) (k + 1) := by
  obtain ⟨Ds, t1, t2, t3, t4, t5⟩ := t
  cases h with
  | leaf h =>
    rcases h with ⟨i, rfl, hi⟩ | ⟨x, rfl, hx⟩
    · exact (Fin1.int hi).mono (Nat.zero_le _) (Nat.le_refl _)
    · have l := txtB_len hx
      have a : (sgn x).all isL = true := by
        unfold txtB at hx
        simp only [Bool.and_eq_true] at hx
        exact hx.2
      exact Fin1.str a (by omega)
  | row h => exact (Fin1.lst h ⟨Ds, t1, t2, t3, Nat.le_refl _, t5⟩).mono (by omega) (Nat.le_refl _)
  | @tab a kvs ks h hk nd nm l =>
    have lz := t1.length
    rw [List.length_map] at lz
    obtain ⟨i1, i2, i3, i4⟩ := kv_fin (H := H) hk nm lz t2 t3
    rw [List.length_map] at t4
    exact ⟨.dict ((kvs.map fun p => keyD p.1).zip Ds), Sees.dct h t1, by simpa [PyData.showable] using i1, by simpa [PyData.leavesShort] using i2, by simp only [PyData.bulk]; omega, by simp only [PyData.depth]; omega⟩
mutual
theorem Tr.fin {H : Hp} : ∀ {b : Bool} {n k : Nat} {v : V}, Tr H b n k v → ∃ B, B + 10 ≤ 22 * n ∧ Fin1 H v B (k + 3)
  | _, _, _, _, .odd h f => ⟨78, by decide, f.mono (Nat.le_refl _) (by omega)⟩
  | _, n + 1, k + 1, _, .node h t => by
    have := Node.fin h (Trs.fin t)
    exact ⟨22 * n + 12, by omega, this.mono (Nat.le_refl _) (by omega)⟩
theorem Trs.fin {H : Hp} : ∀ {b : Bool} {n k : Nat} {vs : List V}, Trs H b n k vs → ∃ Ds, SeesAll H vs Ds ∧ PyData.showableAll Ds = true ∧ PyData.leavesShortAll 2000 Ds = true ∧ PyData.bulkAll Ds + 9 * vs.length ≤ 22 * n ∧ PyData.depthAll Ds ≤ k + 3
  | _, _, _, _, .nil => ⟨[], .nil, rfl, rfl, Nat.le_refl _, Nat.zero_le _⟩
  | _, _, _, _, .cons h t => by
    obtain ⟨B, hb, D, h1, h2, h3, h4, h5⟩ := Tr.fin h
    obtain ⟨Ds, t1, t2, t3, t4, t5⟩ := Trs.fin t
    exact ⟨D :: Ds, .cons h1 t1, by simp [PyData.showableAll, h2, t2], by simp [PyData.leavesShortAll, h3, t3], by simp only [PyData.bulkAll, List.length_cons]; omega, by simp only [PyData.depthAll]; omega⟩
end
def ShowsV (H : Hp) (v : V) (D : PyData) : Prop := Sees H v D ∧ D.showable = true ∧ D.shown.length ≤ sizeLine ∧ D.depth ≤ 150
theorem Tr.shows {H : Hp} {b : Bool} {n k : Nat} {v : V} (h : Tr H b n k v) (hn : n ≤ 350) (hk : k ≤ 140) : ∃ D, ShowsV H v D := by
  obtain ⟨B, hb, D, h1, h2, h3, h4, h5⟩ := h.fin
  refine ⟨D, h1, h2, ?_, by omega⟩
  have := PyData.shown_le_bulk 2000 (by decide) D h3
  have z : (2000 + 2) * D.bulk ≤ (2000 + 2) * 7700 := Nat.mul_le_mul (Nat.le_refl _) (by omega)
  exact Nat.le_trans (show D.shown.length ≤ 15500000 by omega) (by decide)
theorem ShowsV.up {H H' : Hp} {v : V} {D : PyData} (h : ShowsV H v D) (s : Same H H') : ShowsV H' v D := ⟨h.1.up s, h.2⟩
theorem valV_at : ∀ {kvs : List (Key × V)} {ks : List Str}, kvs.map (·.1) = ks.map Sum.inr → ks.Nodup → (ks.map fun k => (valV kvs (Sum.inr k)).getD .non) = kvs.map (·.2) ∧ ∀ k ∈ ks, (valV kvs (Sum.inr k)).isSome = true
  | [], [], _, _ => ⟨rfl, fun k hk => nomatch hk⟩
  | [], _ :: _, h, _ => by simp at h
  | _ :: _, [], h, _ => by simp at h
  | (k, v) :: kvs, x :: ks, h, nd => by
    simp only [List.map_cons, List.cons.injEq] at h
    obtain ⟨e, h⟩ := h
    subst e
    obtain ⟨n1, n2⟩ := List.nodup_cons.mp nd
    obtain ⟨i1, i2⟩ := valV_at h n2
    have ne : ∀ y ∈ ks, valV ((Sum.inr x, v) :: kvs) (Sum.inr y) = valV kvs (Sum.inr y) := fun y hy => valV_neg (by intro z; exact n1 ((Sum.inr.inj z) ▸ hy))
    refine ⟨?_, fun y hy => ?_⟩
    · rw [List.map_cons, List.map_cons, valV_pos rfl, ← i1]
      congr 1
      exact List.map_congr_left fun y hy => by rw [ne y hy]
    · rcases List.mem_cons.mp hy with rfl | hy
      · rw [valV_pos rfl]; rfl
      · rw [ne y hy]; exact i2 y hy
theorem tab_perm {kvs : List (Key × V)} {ks ss : List Str} (hk : kvs.map (·.1) = ks.map Sum.inr) (nd : ks.Nodup) (pm : ss.Perm ks) :
    ∃ es : List V, es.Perm (kvs.map (·.2)) ∧ es.length = ss.length ∧ ∀ (i : Nat) e, es[i]? = some e → ∃ k, ss[i]? = some k ∧ valV kvs (Sum.inr k) = some e := by
  obtain ⟨i1, i2⟩ := valV_at hk nd
  refine ⟨ss.map fun k => (valV kvs (Sum.inr k)).getD .non, by rw [← i1]; exact pm.map _, List.length_map .., fun i e h => ?_⟩
  rw [List.getElem?_map] at h
  cases hs : ss[i]? with
  | none => rw [hs] at h; cases h
  | some k =>
    rw [hs] at h
    have h : (valV kvs (Sum.inr k)).getD .non = e := by simpa using h
    have m := i2 k (pm.mem_iff.mp (List.mem_of_getElem? hs))
    refine ⟨k, rfl, ?_⟩
    cases hv : valV kvs (Sum.inr k) with
    | none => rw [hv] at m; cases m
    | some z => rw [hv] at h; rw [← h]; rfl
def spSoundN : Sp := fun vs H Q _ => ∃ v, vs = [v] ∧ ((Uns H v ∧ ∀ H', Same H H' → Q (.bl false) H') ∨ ∃ its, Node H v its ∧ its.length ≤ 900 ∧ ∀ H', Same H H' → Q (.bl true) H')
def Gets (H : Hp) (v : V) (s : V) (e : V) : Prop := (∃ a xs j, v = .ref a ∧ Rd H a (.lst xs) ∧ s = .int ((j : Nat) : Int) ∧ xs[j]? = some e) ∨ ∃ a kvs k, v = .ref a ∧ Rd H a (.dK kvs) ∧ s = .str k ∧ valV kvs (Sum.inr k) = some e
def spStepsN : Sp := fun vs H Q _ => ∃ v its, vs = [v] ∧ Node H v its ∧ its.length ≤ 900 ∧ ∀ (p : Addr) (l es : List V) (H' : Hp), Same H H' → H p = none → H' p = some (.lst l) → es.Perm its → es.length = l.length → (∀ (i : Nat) e, es[i]? = some e → ∃ s, l[i]? = some s ∧ Gets H v s e) → Q (.ref p) H'
def spInnerN : Sp := fun vs H Q _ => ∃ v its, vs = [v] ∧ Node H v its ∧ its.length ≤ 900 ∧ ∀ (p : Addr) (es : List V) (H' : Hp), Same H H' → H p = none → H' p = some (.lst es) → es.Perm its → Q (.ref p) H'
def spIsDocT : Sp := fun vs H Q _ => ∃ v b n k, vs = [v] ∧ Tr H b n k v ∧ n ≤ 900 ∧ ∀ H', Same H H' → Q (.bl b) H'
end L2

set_option Elab.async false
set_option linter.all false
set_option maxRecDepth 100000
set_option maxHeartbeats 4000000
namespace L2
open PySem PySem.Spec PyProof.Rows
inductive PutIn (H H' : Hp) (b : Addr) (y : V) : Prop
  | row (vs : List V) (i : Nat) (h : H b = some (.lst vs)) (h' : H' b = some (.lst (vs.take i ++ y :: vs.drop i))) : PutIn H H' b y
  | tab (kv : List (Key × V)) (k : Str) (h : H b = some (.dK kv)) (nk : nameB k = true) (h' : H' b = some (.dK (putK kv (Sum.inr k) y))) : PutIn H H' b y
theorem repl_trs {H : Hp} {K m : Nat} {k : Key} {y : V} (hy : Tr H false m K y) : ∀ {kv : List (Key × V)} {c : Bool} {n : Nat}, Trs H c n K (kv.map (·.2)) → (kv.map (·.1)).Nodup → (kv.any fun p => decide (p.1 = k)) = true →
    ∃ n', n' ≤ n + m ∧ Trs H false n' K ((kv.map fun p => if p.1 = k then (p.1, y) else p).map (·.2))
  | [], _, _, _, _, h => by simp at h
  | p :: kv, c, n, t, nd, h => by
    rw [List.map_cons] at t nd
    obtain ⟨n1, n2⟩ := List.nodup_cons.mp nd
    cases t with
    | @cons b1 c1 i1 i2 _ _ _ hd tl =>
      by_cases e : p.1 = k
      · have r : (kv.map fun p => if p.1 = k then (p.1, y) else p) = kv := by
          have : (kv.map fun p => if p.1 = k then (p.1, y) else p) = kv.map id := List.map_congr_left fun q hq => by
            rw [if_neg (fun z => n1 (by rw [e, ← z]; exact List.mem_map_of_mem hq))]
            rfl
          rw [this, List.map_id]
        refine ⟨m + i2, by omega, ?_⟩
        rw [List.map_cons, List.map_cons, if_pos e, r]
        exact (Trs.cons hy tl).cast (Bool.false_and _) rfl
      · have h2 : (kv.any fun p => decide (p.1 = k)) = true := by
          rw [List.any_cons, decide_eq_false e, Bool.false_or] at h
          exact h
        obtain ⟨n', l, t'⟩ := repl_trs hy (kv := kv) tl n2 h2
        refine ⟨i1 + n', by omega, ?_⟩
        rw [List.map_cons, List.map_cons, if_neg e]
        exact (Trs.cons hd t').cast (Bool.and_false _) rfl
theorem put_trs {H : Hp} {K m : Nat} {k : Key} {y : V} (hy : Tr H false m K y) {kv : List (Key × V)} {c : Bool} {n : Nat} (t : Trs H c n K (kv.map (·.2))) (nd : (kv.map (·.1)).Nodup) :
    ∃ n', n' ≤ n + m ∧ Trs H false n' K ((putK kv k y).map (·.2)) := by
  unfold putK
  by_cases h : (kv.any fun p => decide (p.1 = k)) = true
  · rw [if_pos h]
    exact repl_trs hy t nd h
  · rw [if_neg h]
    refine ⟨n + m, Nat.le_refl _, ?_⟩
    rw [List.map_append]
    exact (t.append (Trs.one hy)).cast (Bool.and_false _) rfl
theorem put_keys {kv : List (Key × V)} {ks : List Str} {k : Str} {y : V} (hk : kv.map (·.1) = ks.map Sum.inr) (nd : ks.Nodup) (nm : ∀ x ∈ ks, nameB x = true) (nk : nameB k = true) :
    ∃ ks' : List Str, (putK kv (Sum.inr k) y).map (·.1) = ks'.map Sum.inr ∧ ks'.Nodup ∧ ∀ x ∈ ks', nameB x = true := by
  unfold putK
  by_cases h : (kv.any fun p => decide (p.1 = Sum.inr k)) = true
  · rw [if_pos h]
    refine ⟨ks, ?_, nd, nm⟩
    rw [← hk, List.map_map]
    exact List.map_congr_left fun p _ => by
      show (if p.1 = Sum.inr k then (p.1, y) else p).1 = p.1
      split <;> rfl
  · rw [if_neg h]
    have nn : k ∉ ks := fun hm => h (by
      have : (Sum.inr k : Key) ∈ kv.map (·.1) := by rw [hk]; exact List.mem_map_of_mem hm
      obtain ⟨p, hp, e⟩ := List.mem_map.mp this
      exact List.any_eq_true.mpr ⟨p, hp, decide_eq_true e⟩)
    refine ⟨ks ++ [k], by rw [List.map_append, List.map_append, hk]; rfl, ?_, ?_⟩
    · exact List.nodup_append.mpr ⟨nd, by simp, fun a ha b hb e => nn (by rw [List.mem_singleton.mp hb] at e; rw [← e]; exact ha)⟩
    · intro x hx
      rcases List.mem_append.mp hx with hx | hx
      · exact nm x hx
      · rw [List.mem_singleton.mp hx]; exact nk
theorem nodup_inr {ks : List Str} (h : ks.Nodup) : (ks.map (Sum.inr : Str → Key)).Nodup := List.pairwise_map.mpr (h.imp fun ne e => ne (Sum.inr.inj e))
theorem Dc.off {H H' : Hp} {b : Addr} (ch : ∀ a, a ≠ b → ∀ o, H a = some o → H' a = some o) {d : Dc} (h : d.At H) (n : b ∉ d.addrs) : d.At H' :=
  Dc.at_read d (fun a ha u r => r.up (ch a fun z => n (z ▸ ha))) h
theorem Dc.offL {H H' : Hp} {b : Addr} (ch : ∀ a, a ≠ b → ∀ o, H a = some o → H' a = some o) : ∀ {xs : List Dc}, Dc.AtL H xs → b ∉ Dc.addrsL xs → Dc.AtL H' xs
  | [], _, _ => trivial
  | x :: r, h, n => by
    simp only [Dc.AtL] at h ⊢
    simp only [Dc.addrsL, List.mem_append, not_or] at n
    exact ⟨Dc.off ch h.1 n.1, Dc.offL ch h.2 n.2⟩
mutual
theorem Dc.putin {H H' : Hp} {b : Addr} {y : V} {m K : Nat} (hy : Tr H' false m K y) (ch : ∀ a, a ≠ b → ∀ o, H a = some o → H' a = some o) (L : PutIn H H' b y) :
    ∀ d : Dc, d.ok → d.At H → d.slim → d.size < 63 → d.addrs.Nodup → b ∈ d.addrs → ∃ n, n ≤ d.size + m ∧ Tr H' false n (K + d.deep) d.val
  | .leaf v, _, _, _, _, _, hb => by simp [Dc.addrs] at hb
  | .row a xs, ok, at_, sl, sz, nd, hb => by
    simp only [Dc.ok] at ok
    simp only [Dc.At] at at_
    simp only [Dc.slim] at sl
    simp only [Dc.size] at sz ⊢
    simp only [Dc.addrs] at nd hb
    simp only [Dc.deep, Dc.val]
    obtain ⟨n1, n2⟩ := List.nodup_cons.mp nd
    by_cases e : b = a
    · subst e
      have full := Dc.trL (H := H') (K := K + Dc.deepL xs) xs ok (Dc.offL ch at_.2 n1) sl (by omega)
      cases L with
      | row vs i h h' =>
        have ev : vs = xs.map Dc.val := by
          rcases at_.1 with r | ⟨o, r⟩
          · rw [r] at h; cases h; rfl
          · rw [r] at h; cases h
        subst ev
        rw [← List.take_append_drop i (xs.map Dc.val)] at full
        obtain ⟨c1, m1, c2, m2, t1, t2, e1, e2⟩ := full.split
        refine ⟨m1 + (m + m2) + 1, by omega, ?_⟩
        have := Tr.node (.row (.inl h')) ((t1.append (Trs.cons (hy.deeper (Nat.le_add_right K (Dc.deepL xs))) t2)).cast (b' := false) (by simp) rfl)
        exact this.deeper (by omega)
      | tab kv k h _ h' =>
        rcases at_.1 with r | ⟨o, r⟩ <;> rw [r] at h <;> cases h
    · have hb : b ∈ Dc.addrsL xs := (List.mem_cons.mp hb).resolve_left e
      obtain ⟨n, l, t⟩ := Dc.putinL hy ch L xs ok at_.2 sl (by omega) n2 hb
      exact ⟨n + 1, by omega, (Tr.node (.row (at_.1.up (ch a (Ne.symm e)))) t).deeper (by omega)⟩
  | .tab a ks xs, ok, at_, sl, sz, nd, hb => by
    simp only [Dc.ok] at ok
    have at0 := at_
    simp only [Dc.At] at at_
    have sl0 := sl
    simp only [Dc.slim] at sl
    simp only [Dc.size] at sz ⊢
    simp only [Dc.addrs] at nd hb
    simp only [Dc.deep, Dc.val]
    obtain ⟨n1, n2⟩ := List.nodup_cons.mp nd
    have kk := Dc.kvs_keys (ks := ks) (xs := xs) at_.2.1
    have kl : (Dc.kvs ks xs).length = ks.length := by
      have := congrArg List.length kk
      simpa using this
    have vv : (Dc.kvs ks xs).map (·.2) = xs.map Dc.val := by
      unfold Dc.kvs
      rw [List.map_map]
      show ((ks.zip (xs.map Dc.val)).map fun p => p.2) = _
      exact List.map_snd_zip (by rw [List.length_map, at_.2.1]; exact Nat.le_refl _)
    have lx := Dc.lenL xs
    by_cases e : b = a
    · subst e
      have full := Dc.trL (H := H') (K := K + Dc.deepL xs) xs ok.2 (Dc.offL ch at_.2.2.2 n1) sl.2 (by omega)
      cases L with
      | row vs i h h' =>
        rcases at_.1 with r | ⟨o, r⟩ <;> rw [r] at h <;> cases h
      | tab kv k h nk h' =>
        have ev : kv = Dc.kvs ks xs := by
          rcases at_.1 with r | ⟨o, r⟩
          · rw [r] at h; cases h; rfl
          · rw [r] at h; cases h
        subst ev
        rw [← vv] at full
        obtain ⟨n, l, t⟩ := put_trs (k := Sum.inr k) (hy.deeper (Nat.le_add_right K (Dc.deepL xs))) full (by rw [kk]; exact nodup_inr at_.2.2.1)
        obtain ⟨ks', k1, k2, k3⟩ := put_keys (y := y) kk at_.2.2.1 ok.1 nk
        have lp := length_putK (Dc.kvs ks xs) (Sum.inr k) y
        exact ⟨n + 1, by omega, (Tr.node (.tab (.inl h') k1 k2 k3 (by rw [kl, at_.2.1] at lp; omega)) t).deeper (by omega)⟩
    · have hb : b ∈ Dc.addrsL xs := (List.mem_cons.mp hb).resolve_left e
      obtain ⟨n, l, t⟩ := Dc.putinL hy ch L xs ok.2 at_.2.2.2 sl.2 (by omega) n2 hb
      rw [← vv] at t
      exact ⟨n + 1, by omega, (Tr.node (.tab (at_.1.up (ch a (Ne.symm e))) kk at_.2.2.1 ok.1 (by rw [kl, at_.2.1]; exact sl.1)) t).deeper (by omega)⟩
theorem Dc.putinL {H H' : Hp} {b : Addr} {y : V} {m K : Nat} (hy : Tr H' false m K y) (ch : ∀ a, a ≠ b → ∀ o, H a = some o → H' a = some o) (L : PutIn H H' b y) :
    ∀ xs : List Dc, Dc.okL xs → Dc.AtL H xs → Dc.slimL xs → Dc.sizeL xs < 63 → (Dc.addrsL xs).Nodup → b ∈ Dc.addrsL xs → ∃ n, n ≤ Dc.sizeL xs + m ∧ Trs H' false n (K + Dc.deepL xs) (xs.map Dc.val)
  | [], _, _, _, _, _, hb => by simp [Dc.addrsL] at hb
  | x :: r, ok, at_, sl, sz, nd, hb => by
    simp only [Dc.okL] at ok
    simp only [Dc.AtL] at at_
    simp only [Dc.slimL] at sl
    simp only [Dc.sizeL] at sz ⊢
    simp only [Dc.addrsL] at nd hb
    simp only [Dc.deepL]
    obtain ⟨n1, n2, n3⟩ := List.nodup_append.mp nd
    rcases List.mem_append.mp hb with hx | hx
    · obtain ⟨n, l, t⟩ := Dc.putin hy ch L x ok.1 at_.1 sl.1 (by omega) n1 hx
      have nr : b ∉ Dc.addrsL r := fun z => n3 b hx b z rfl
      have tl := Dc.trL (H := H') (K := K + max x.deep (Dc.deepL r)) r ok.2 (Dc.offL ch at_.2 nr) sl.2 (by omega)
      exact ⟨n + Dc.sizeL r, by omega, (Trs.cons (t.deeper (by omega)) tl).cast (Bool.false_and _) rfl⟩
    · obtain ⟨n, l, t⟩ := Dc.putinL hy ch L r ok.2 at_.2 sl.2 (by omega) n2 hx
      have nx : b ∉ x.addrs := fun z => n3 b z b hx rfl
      have hd := (Dc.tr (H := H') x ok.1 (Dc.off ch at_.1 nx) sl.1).deeper (j := K + max x.deep (Dc.deepL r)) (by omega)
      exact ⟨x.size + n, by omega, (Trs.cons hd (t.deeper (by omega))).cast (Bool.and_false _) rfl⟩
end
theorem txtB_bad {x : Str} {c : Nat} (h : c ∈ sgn x) (n : isL c = false) : txtB x = false := by
  unfold txtB
  have : (sgn x).all isL = false := by
    rw [Bool.eq_false_iff]
    intro z
    have := List.all_eq_true.mp z c h
    rw [n] at this
    cases this
  rw [this, Bool.and_false]
theorem nameB_bad {x : Str} {c : Nat} (h : c ∈ sgn x) (n : isL c = false) : nameB x = false := by
  rw [Bool.eq_false_iff]
  intro z
  have := List.all_eq_true.mp (nameB_all z) c h
  rw [n] at this
  cases this
theorem Fin1.txt {H : Hp} {x : Str} {b n : Nat} (h : ∀ c ∈ sgn x, c < 16 ^ 8) (l : x.length ≤ b) : Fin1 H (.str x) b n := by
  refine ⟨.str x, .str x, rfl, ?_, l, Nat.zero_le _⟩
  simp only [PyData.leavesShort, List.all_eq_true, decide_eq_true_eq]
  exact h
theorem Fin1.bl {H : Hp} {c : Bool} {b n : Nat} : Fin1 H (.bl c) b n := ⟨.bool c, .bl c, rfl, by cases c <;> rfl, Nat.zero_le _, Nat.zero_le _⟩
theorem Fin1.non {H : Hp} {b n : Nat} : Fin1 H .non b n := ⟨.none, .non, rfl, rfl, Nat.zero_le _, Nat.zero_le _⟩
theorem Fin1.odd {H : Hp} {a : Addr} {o : Obj} {k v : V} {b c n : Nat} (h : H a = some (OdO a o k v)) (hk : Fin1 H k b n) (hv : Fin1 H v c n) : Fin1 H (.ref a) (b + c + 2) (n + 1) := by
  obtain ⟨D, d1, d2, d3, d4, d5⟩ := hk
  obtain ⟨D', e1, e2, e3, e4, e5⟩ := hv
  refine ⟨.dict [(D, D')], .oth fun H' s P w hp ok u r => ?_, by simp [PyData.showable, PyData.showableKv, d2, e2], by simp [PyData.leavesShort, PyData.leavesShortKv, d3, e3], by simp only [PyData.bulk, PyData.bulkKv]; omega, by simp only [PyData.depth, PyData.depthKv]; omega⟩
  cases (show u = Value.ref a from r)
  obtain ⟨ns, ho, hc, ku, vu, hs, ep, rk, rv, hdt⟩ := od_of ok (s _ _ h)
  obtain ⟨as, ra, ha⟩ := (d1.up s).reads ok rk
  obtain ⟨bs, rb, hb⟩ := (e1.up s).reads ok rv
  refine ⟨a :: (as ++ []) ++ (bs ++ []), .dict ho hc.1 hdt (.cons ra .nil) (.cons rb .nil), fun b hb' => ?_⟩
  rcases List.mem_append.mp hb' with hb' | hb'
  · rcases List.mem_cons.mp hb' with rfl | hb'
    · exact ⟨_, s _ _ h⟩
    · rw [List.append_nil] at hb'; exact ha b hb'
  · rw [List.append_nil] at hb'; exact hb b hb'
theorem Fin1.key {H : Hp} {a : Addr} {k : Key} {v : V} {b c n : Nat} (h : Rd H a (.dK [(k, v)])) (hk : ∃ D, keyD k = D ∧ D.showable = true ∧ D.leavesShort 2000 = true ∧ D.bulk ≤ b ∧ D.depth ≤ n) (hv : Fin1 H v c n) : Fin1 H (.ref a) (b + c + 2) (n + 1) := by
  obtain ⟨D, d1, d2, d3, d4, d5⟩ := hk
  obtain ⟨D', e1, e2, e3, e4, e5⟩ := hv
  have S := Sees.dct h (.cons e1 .nil)
  have z : ((([(k, v)] : List (Key × V)).map fun p => keyD p.1).zip [D']) = [(D, D')] := by rw [← d1]; rfl
  rw [z] at S
  exact ⟨.dict [(D, D')], S, by simp [PyData.showable, PyData.showableKv, d2, e2], by simp [PyData.leavesShort, PyData.leavesShortKv, d3, e3], by simp only [PyData.bulk, PyData.bulkKv]; omega, by simp only [PyData.depth, PyData.depthKv]; omega⟩
theorem keyTy (H : Hp) (k : Key) : ∃ T, TyN H (kV k) T := by
  cases k with
  | inl i => exact ⟨_, .int i⟩
  | inr x => exact ⟨_, .str x⟩
theorem mem_cutN {xs : List Nat} {l u : Option Int} {c : Nat} (h : c ∈ cutN xs l u) : c ∈ xs := by
  unfold cutN at h
  exact List.mem_of_mem_drop (List.mem_of_mem_take h)
theorem revS_len (z : Str) : (revS z).length = z.length := step_rev_len z 0
theorem sgn_rev (z : Str) : sgn (revS z) = (sgn z).reverse := by
  show (Txt.sliceBy z none none (-1, 0)).cps.toList = _
  rw [step_rev_list]
  have e : z.length = (sgn z).length := (sgn_length z).symm
  refine List.ext_getElem (by simp [e]) fun i h1 h2 => ?_
  rw [List.getElem_map, List.getElem_range, List.getElem_reverse]
  have hi : i < z.length := by simpa using h1
  have hj : z.length - 1 - i < z.cps.size := by show _ < z.length; omega
  rw [Array.getD_eq_getD_getElem?, Array.getElem?_eq_getElem hj]
  simp only [Option.getD_some, Array.getElem_toList]
  congr 1
theorem odd_sign (i : Int) (h0 : 0 ≤ i) (h1 : i < 12) : ∃ c, atI (sgn "A0 _.-[]Z9,:") i = some c ∧ isL c = false ∧ c < 16 ^ 8 := by
  obtain ⟨n, rfl⟩ := Int.eq_ofNat_of_zero_le h0
  have ln : (sgn "A0 _.-[]Z9,:").length = 12 := by decide +kernel
  have hn : n < (sgn "A0 _.-[]Z9,:").length := by rw [ln]; omega
  have all : ∀ c ∈ sgn "A0 _.-[]Z9,:", isL c = false ∧ c < 16 ^ 8 := by decide +kernel
  exact ⟨(sgn "A0 _.-[]Z9,:")[n], atI_nat (List.getElem?_eq_getElem hn), all _ (List.getElem_mem hn)⟩
def OddV (H : Hp) (v : V) : Prop := ∃ m, m ≤ 8 ∧ Tr H false m 2 v
theorem OddV.up {H H' : Hp} {v : V} (h : OddV H v) (s : Same H H') : OddV H' v := by
  obtain ⟨m, l, t⟩ := h
  exact ⟨m, l, t.up s⟩
theorem OddV.of {H : Hp} {v : V} (h : Uns H v) (f : Fin1 H v 78 3) : OddV H v := ⟨4, by decide, .odd h f⟩
theorem LaidAt.putIn {N : List Str} {b : Addr} {y : V} {H H' : Hp} (h : LaidAt N b y H H') : PutIn H H' b y := by
  rcases h with ⟨vs, i, h1, h2⟩ | ⟨kv, k, h1, h2, ⟨h3, _⟩, h4⟩
  · exact .row vs i h1 h2
  · refine .tab kv k h1 h3 ?_
    rw [h4, putK_new]
    cases e : valV kv (Sum.inr k : Key) with
    | none => rfl
    | some z => exact absurd (valV_in e) h2
def Nms (H : Hp) (n : Addr) (ys : List Str) : Prop := H n = some (.lst (ys.map V.str)) ∧ ys.length = 6 ∧ ys.Nodup ∧ ∀ y ∈ ys, nameB y = true
theorem Nms.up {H H' : Hp} {n : Addr} {ys : List Str} (h : Nms H n ys) (s : Same H H') : Nms H' n ys := ⟨s _ _ h.1, h.2⟩
inductive spLaidOI (K : PySem.W.Frag) (vs : List V) (H : Hp) (Q : VK) (u3_ : XK) : Prop
  | mk (b : Addr) (n : Addr) (y : V) (ys : List Str) (c : Int) (x0 : vs = [.ref b, y, .ref n, .int c]) (x1 : 0 ≤ c) (x2 : SqL K H n (ys.map V.str)) (x3 : ys.length ≤ 100) (x4 : (∀ y ∈ ys, nameB y = true)) (x5 : ((∃ vs, H b = some (.lst vs) ∧ vs.length ≤ 1000) ∨ ∃ kv, H b = some (.dK kv) ∧ kv.length ≤ 1000)) (x6 : ∀ H', Chg b H H' → LaidAt ys b y H H' → Q (.bl true) H') (x7 : ∀ H', Same H H' → (∃ kv, H b = some (.dK kv)) → Q (.bl false) H') : spLaidOI K vs H Q u3_
def spLaidO (K : PySem.W.Frag) : Sp := fun vs H Q u3_ => spLaidOI K vs H Q u3_
theorem spLaid_of {K : PySem.W.Frag} {vs : List V} {H : Hp} {Q : VK} {E : XK} (h : spLaid K vs H Q E) : spLaidO K vs H Q E := by
  obtain ⟨b, n, y, ys, c, e, h1, h2, h3, h4, h5, h6, h7⟩ := h
  exact ⟨b, n, y, ys, c, e, h1, h2, h3, h4, h5, h6, fun H' s _ => h7 H' s⟩
def spOdd : Sp := fun vs H Q _ => ∃ (c : Int) (n : Addr) (ys : List Str), vs = [.int c, .ref n] ∧ Nms H n ys ∧ ∀ v H' m K, Same H H' → Tr H' false m K v → m ≤ 20 → K ≤ 5 → Q v H'
def spHold (j : Nat) : Sp := fun vs H Q _ => ∃ d : Dc, vs = [d.val] ∧ d.At H ∧ d.deep ≤ j ∧ d.size ≤ 900 ∧ ∀ (p : Addr) (as : List Addr) (H' : Hp), Same H H' → H p = none → H' p = some (.lst (as.map V.ref)) → (∀ a ∈ as, a ∈ d.addrs) → as.length ≤ d.size → Q (.ref p) H'
def spWithO : Sp := fun vs H Q _ => ∃ (d : Dc) (o : V) (n : Addr) (c : Int) (ys : List Str) (m K : Nat), vs = [d.val, o, .ref n, .int c] ∧ d.At H ∧ d.ok ∧ d.size ≤ 40 ∧ Tr H false m K o ∧ m ≤ 20 ∧ K ≤ 5 ∧ Nms H n ys ∧ ∀ v H' m' K', Same H H' → Tr H' false m' K' v → m' ≤ 60 → K' ≤ 46 → Q v H'
def spWithin : Sp := fun vs H Q _ => ∃ (v : V) (c : Int) (n : Addr) (ys : List Str) (b : Bool) (m K : Nat), vs = [v, .int c, .ref n] ∧ Tr H b m K v ∧ m ≤ 60 ∧ K ≤ 46 ∧ Nms H n ys ∧ ∀ v' H' m' K', Same H H' → Tr H' b m' K' v' → m' ≤ 300 → K' ≤ 125 → Q v' H'
end L2

set_option Elab.async false
set_option linter.all false
set_option maxRecDepth 100000
set_option maxHeartbeats 40000000
namespace K12
open PySem L2
def top (i : Nat) : Stmt := PySem.Challenge.pw_patchbough_k12_what_is_no_document.main.body.getD i (.Pass ⟨0, 0, 0, 0⟩)
abbrev sIsWhole : Stmt := top 4
abbrev sHasLettersAlone : Stmt := top 5
abbrev sIsName : Stmt := top 6
abbrev sIsSound : Stmt := top 7
abbrev sIsDoc : Stmt := top 8
abbrev sStepsOf : Stmt := top 9
abbrev sInnerOf : Stmt := top 10
abbrev sCell : Stmt := top 12
abbrev sMix : Stmt := top 13
abbrev sNames : Stmt := top 14
abbrev sLeaf : Stmt := top 15
abbrev sPart : Stmt := top 16
abbrev sLaid : Stmt := top 17
abbrev sDoc : Stmt := top 18
abbrev sCopy : Stmt := top 19
abbrev sOdd : Stmt := top 20
abbrev sHolders : Stmt := top 21
abbrev sWith : Stmt := top 22
abbrev sWithin : Stmt := top 23
abbrev sLaw : Stmt := top 24
inductive Ex7_6 {α0 α1 α2 α3 α4 α5 α6 : Type} (p0 p1 p2 p3 p4 p5 : α0 → α1 → α2 → α3 → α4 → α5 → α6 → Prop) : Prop
  | mk (x0 : α0) (x1 : α1) (x2 : α2) (x3 : α3) (x4 : α4) (x5 : α5) (x6 : α6) (h0 : p0 x0 x1 x2 x3 x4 x5 x6) (h1 : p1 x0 x1 x2 x3 x4 x5 x6) (h2 : p2 x0 x1 x2 x3 x4 x5 x6) (h3 : p3 x0 x1 x2 x3 x4 x5 x6) (h4 : p4 x0 x1 x2 x3 x4 x5 x6) (h5 : p5 x0 x1 x2 x3 x4 x5 x6) : Ex7_6 p0 p1 p2 p3 p4 p5
end K12

set_option Elab.async false
set_option linter.all false
set_option maxRecDepth 100000
set_option maxHeartbeats 40000000
namespace K12
open PySem L2
section
variable {P : Program} {w : World} {K : PySem.W.Frag} {mg : Str → Option Value} {base : Heap}
theorem scIsWhole : FnScope ["thing"] ["thing"] (defScope sIsWhole) := ⟨rfl, rfl, rfl, by decide +kernel, rfl, by decide +kernel, by decide +kernel⟩
theorem ok_IsWhole {f : Addr} {fd : FuncData} (F : Fun K "is_whole" "is_whole" sIsWhole f fd) (T : Txt mg) : FnOk P w K mg base CX0 1 f fd ["thing"] spWhole := by
  refine F.ok scIsWhole (fun vs H Q E h => ?_) (fun cdv A outer s H vs Q E hr h => ?_)
  · obtain ⟨v, Ty, rfl, ty, k⟩ := h
    rfl
  · obtain ⟨v, Ty, rfl, ty, k⟩ := h
    have nd := scIsWhole.nd
    have hu := hu_of hr
    refine ⟨_, (pss_one (ps_ret (pe_and (pe_callB call_isiN rfl T.isinstance b_isinstance (pa_cons (pv 0) (pa_cons (pe_bltn (v := .ty "int") rfl T.int b_int rfl) pa_nil))) (pe_one (pe_not (pe_callB call_isiN rfl T.isinstance b_isinstance (pa_cons (pv 0) (pa_cons (pe_bltn (v := .ty "bool") rfl T.bool b_bool rfl) pa_nil)))))))), ?_⟩
    refine ⟨v, rfl, v, "int", Ty, rfl, rfl, ty, _, rfl, ?_⟩
    have e : wholeV v = (isiB Ty "int" && !isiB Ty "bool") := by cases ty <;> simp [wholeV, isiB]
    rw [e] at k
    refine ite2 (fun h => ?_) (fun h => ?_)
    · refine ⟨v, rfl, v, "bool", Ty, rfl, rfl, ty, _, rfl, ?_⟩
      rw [h] at k
      exact k
    · rw [Bool.not_eq_true _ |>.mp h] at k
      exact k
end
end K12

set_option Elab.async false
set_option linter.all false
set_option maxRecDepth 100000
set_option maxHeartbeats 40000000
namespace K12
open PySem L2
section
variable {P : Program} {w : World} {K : PySem.W.Frag} {mg : Str → Option Value} {base : Heap}
theorem scHasLettersAlone : FnScope ["text"] ["text"] (defScope sHasLettersAlone) := ⟨rfl, rfl, rfl, by decide +kernel, rfl, by decide +kernel, by decide +kernel⟩
theorem ok_HasLettersAlone {f : Addr} {fd : FuncData} (F : Fun K "has_letters_alone" "has_letters_alone" sHasLettersAlone f fd) (T : Txt mg) (hL : ∃ t, mg "LETTERS" = some (.str "abcdefghijklmnopqrstuvwxyz" t)) : FnOk P w K mg base CX0 1 f fd ["text"] spLetters := by
  obtain ⟨tl, hl⟩ := hL
  refine F.ok scHasLettersAlone (fun vs H Q E h => ?_) (fun cdv A outer s H vs Q E hr h => ?_)
  · obtain ⟨x, rfl, hx, k⟩ := h
    rfl
  · obtain ⟨x, rfl, hx, k⟩ := h
    have nd := scHasLettersAlone.nd
    have hu := hu_of hr
    refine ⟨_, (pss_one (ps_ret (pe_callB (call_all rfl) rfl T.all b_all (pa_cons (pe_comp (fv := []) (fs := []) rfl (.of (by rfl)) (pi_str (pv 0)) (fun _ _ _ _ => pts_nil) (fun C s0 H0 fp => (pe_cmpR op_in_str (pv 0) (pe_glob (v := .str "abcdefghijklmnopqrstuvwxyz") rfl hl ⟨tl, rfl⟩) rfl))) pa_nil)))), ?_⟩
    refine ⟨.str x, rfl, x, rfl, ?_⟩
    refine comp_pure (n := x.cps.size) (fun i => .str ⟨#[x.cps.getD i 0]⟩) (fun i => .bl (isL (x.cps.getD i 0))) (fun _ => true) ?_ (fun i D ys hi hD => hi) (fun i D ys v H' hi hD y => ?_) (fun D ys hD => rfl) (fun i D ys R hi hD r => by exact r)
      (fun i D ys R hi hD _ r => ?_) (fun D hD => ?_)
    · have : x.cps.size ≤ 1000 := hx
      exact Nat.le_of_lt (small1000 this)
    · obtain ⟨e, c, hc, e2⟩ := y
      subst e e2
      have : x.cps.getD i 0 = c := by rw [Array.getD_eq_getD_getElem?, hc]; rfl
      exact ⟨by rw [this], rfl⟩
    · refine ⟨_, rfl, _, _, rfl, rfl, ?_⟩
      rw [StrLaws.found_one]
      exact r
    · refine ⟨D, (sgn x).map isL, rfl, ?_, ?_⟩
      · have e : List.map (fun i => V.bl (isL (x.cps.getD i 0))) (List.filter (fun _ => true) (List.range x.cps.size)) = List.map V.bl (List.map isL (sgn x)) := by
          rw [List.filter_eq_self.mpr fun _ _ => rfl, List.map_map]
          refine List.ext_getElem (by simp) fun i h1 h2 => ?_
          simp only [List.getElem_map, List.getElem_range, Function.comp]
          congr 2
          have hi : i < x.cps.size := by simpa using h1
          rw [Array.getD_eq_getD_getElem?, Array.getElem?_eq_getElem hi]
          simp
        rw [e]
        exact SqL.of upd_same
      · rw [List.all_map]
        exact k _ fun b o e => by rw [upd_ne (ne_of_none e hD)]; exact e
end
end K12

set_option Elab.async false
set_option linter.all false
set_option maxRecDepth 100000
set_option maxHeartbeats 40000000
namespace K12
open PySem L2
section
variable {P : Program} {w : World} {K : PySem.W.Frag} {mg : Str → Option Value} {base : Heap}
theorem scIsName : FnScope ["thing"] ["thing"] (defScope sIsName) := ⟨rfl, rfl, rfl, by decide +kernel, rfl, by decide +kernel, by decide +kernel⟩
theorem ok_IsName {f : Addr} {fd : FuncData} (F : Fun K "is_name" "is_name" sIsName f fd) (T : Txt mg) (DHasLettersAlone : Df P w K mg base "has_letters_alone" ["text"] 1 spLetters) (hN : ∃ t, mg "LONGEST_NAME" = some (.int 8 t)) : FnOk P w K mg base CX0 2 f fd ["thing"] spName := by
  obtain ⟨fHasLettersAlone, dHasLettersAlone, kHasLettersAlone, bHasLettersAlone, mHasLettersAlone, GHasLettersAlone⟩ := DHasLettersAlone.ex
  obtain ⟨tl, hl⟩ := hN
  refine F.ok scIsName (fun vs H Q E h => ?_) (fun cdv A outer s H vs Q E hr h => ?_)
  · obtain ⟨v, Ty, rfl, ty, sh, k⟩ := h
    rfl
  · obtain ⟨v, Ty, rfl, ty, sh, k⟩ := h
    have nd := scIsName.nd
    have hu := hu_of hr
    have hrHasLettersAlone : Room 1 _ := hr.mono (by first | decide | omega)
    refine ⟨_, (pss_one (ps_ret (pe_and (pe_callB call_isiN rfl T.isinstance b_isinstance (pa_cons (pv 0) (pa_cons (pe_bltn (v := .ty "str") rfl T.str b_str rfl) pa_nil))) (pe_and (pe_chain op_le op_le pe_int (pe_callB call_len_str rfl T.len PySem.boot_len (pa_cons (pv 0) pa_nil)) (pe_glob (v := .int 8) rfl hl ⟨tl, rfl⟩)) (pe_one (pe_call GHasLettersAlone hrHasLettersAlone rfl mHasLettersAlone kHasLettersAlone bHasLettersAlone .nil pass0 (pa_cons (pv 0) pa_nil))))))), ?_⟩
    refine ⟨v, rfl, v, "str", Ty, rfl, rfl, ty, _, rfl, ?_⟩
    cases ty with
    | str x =>
      refine iteT ?_
      have hx := sh x rfl
      have hz : x.length ≤ sizeLine := Nat.le_of_lt (small1000 hx)
      refine ⟨.str x, rfl, x, rfl, hz, 1, _, rfl, rfl, _, rfl, ?_⟩
      have k := k
      have e : nameV (.str x) = (decide (1 ≤ x.length) && decide (x.length ≤ 8) && (sgn x).all isL) := by
        show nameS (sgn x) = _
        unfold nameS
        rw [sgn_length]
      rw [e] at k
      have d1 : decide ((1 : Int) ≤ (x.length : Int)) = decide (1 ≤ x.length) := by rw [Bool.eq_iff_iff]; simp; omega
      have d2 : decide ((x.length : Int) ≤ 8) = decide (x.length ≤ 8) := by rw [Bool.eq_iff_iff]; simp; omega
      rw [d1]
      refine ite2 (fun h1 => ?_) (fun h1 => ?_)
      · rw [h1] at k
        refine ⟨_, _, rfl, rfl, _, rfl, ?_⟩
        rw [d2]
        refine ite2 (fun h2 => ?_) (fun h2 => ?_)
        · rw [h2] at k
          exact ⟨.str x, rfl, x, rfl, hx, k⟩
        · rw [Bool.not_eq_true _ |>.mp h2] at k
          exact k H (Same.refl H)
      · rw [Bool.not_eq_true _ |>.mp h1] at k
        exact ⟨_, rfl, iteF (k H (Same.refl H))⟩
    | non => exact iteF (k H (Same.refl H))
    | bl b => exact iteF (k H (Same.refl H))
    | int i => exact iteF (k H (Same.refl H))
    | lst e => exact iteF (k H (Same.refl H))
    | tup e => exact iteF (k H (Same.refl H))
    | dK e => exact iteF (k H (Same.refl H))
end
end K12

set_option Elab.async false
set_option linter.all false
set_option maxRecDepth 100000
set_option maxHeartbeats 40000000
namespace K12
open PySem L2
section
variable {P : Program} {w : World} {K : PySem.W.Frag} {mg : Str → Option Value} {base : Heap}
theorem scIsSound : FnScope ["thing"] ["thing"] (defScope sIsSound) := ⟨rfl, rfl, rfl, by decide +kernel, rfl, by decide +kernel, by decide +kernel⟩
theorem ok_IsSound {f : Addr} {fd : FuncData} (F : Fun K "is_sound" "is_sound" sIsSound f fd) (T : Txt mg) (DIsWhole : Df P w K mg base "is_whole" ["thing"] 1 spWhole) (DHasLettersAlone : Df P w K mg base "has_letters_alone" ["text"] 1 spLetters) (DIsName : Df P w K mg base "is_name" ["thing"] 2 spName) (hT : ∃ t, mg "LONGEST_TEXT" = some (.int 12 t)) : FnOk P w K mg base CX0 3 f fd ["thing"] spSoundN := by
  obtain ⟨fIsWhole, dIsWhole, kIsWhole, bIsWhole, mIsWhole, GIsWhole⟩ := DIsWhole.ex
  obtain ⟨fHasLettersAlone, dHasLettersAlone, kHasLettersAlone, bHasLettersAlone, mHasLettersAlone, GHasLettersAlone⟩ := DHasLettersAlone.ex
  obtain ⟨fIsName, dIsName, kIsName, bIsName, mIsName, GIsName⟩ := DIsName.ex
  obtain ⟨tl, hl⟩ := hT
  refine F.ok scIsSound (fun vs H Q E h => ?_) (fun cdv A outer s H vs Q E hr h => ?_)
  · obtain ⟨v, rfl, h⟩ := h
    rfl
  · obtain ⟨v, rfl, h⟩ := h
    have nd := scIsSound.nd
    have hu := hu_of hr
    have hrIsWhole : Room 1 _ := hr.mono (by first | decide | omega)
    have hrHasLettersAlone : Room 1 _ := hr.mono (by first | decide | omega)
    have hrIsName : Room 2 _ := hr.mono (by first | decide | omega)
    refine ⟨_, (pss_cons (ps_if (pt_val (pe_callB (call_isiNO : CallR _ _ rIsiNO) rfl T.isinstance b_isinstance (pa_cons (pv 0) (pa_cons (pe_bltn (v := .ty "list") rfl T.list b_list rfl) pa_nil)))) (pss_one (ps_ret pe_bl)) pss_nil)
      (pss_cons (ps_if (pt_val (pe_callB (call_isiNO : CallR _ _ rIsiNO) rfl T.isinstance b_isinstance (pa_cons (pv 0) (pa_cons (pe_bltn (v := .ty "dict") rfl T.dict b_dict rfl) pa_nil)))) (pss_one (ps_ret (pe_callB (call_all rfl) rfl T.all b_all (pa_cons (pe_alt (pe_walk (pe_comp (fv := []) (fs := []) rfl (.of (by rfl)) (pi_dict (pv 0)) (fun _ _ _ _ => pts_nil) (fun C s0 H0 fp => (pe_call GIsName hrIsName rfl mIsName kIsName bIsName .nil pass0 (pa_cons (pv 0) pa_nil))))) (pe_comp (fv := []) (fs := []) rfl (.of (by rfl)) (pi_odd (pv 0)) (fun _ _ _ _ => pts_nil) (fun C s0 H0 fp => (pe_call GIsName hrIsName rfl mIsName kIsName bIsName .nil pass0 (pa_cons (pv 0) pa_nil))))) pa_nil)))) pss_nil)
      (pss_cons (ps_if (pt_val (pe_callB (call_isiNO : CallR _ _ rIsiNO) rfl T.isinstance b_isinstance (pa_cons (pv 0) (pa_cons (pe_bltn (v := .ty "str") rfl T.str b_str rfl) pa_nil)))) (pss_one (ps_ret (pe_and (pe_cmpR op_le (pe_callB call_len_str rfl T.len PySem.boot_len (pa_cons (pv 0) pa_nil)) (pe_glob (v := .int 12) rfl hl ⟨tl, rfl⟩) (nomark _)) (pe_one (pe_call GHasLettersAlone hrHasLettersAlone rfl mHasLettersAlone kHasLettersAlone bHasLettersAlone .nil pass0 (pa_cons (pv 0) pa_nil)))))) pss_nil)
      (pss_one (ps_ret (pe_call GIsWhole hrIsWhole rfl mIsWhole kIsWhole bIsWhole .nil pass0 (pa_cons (pv 0) pa_nil))))))), ?_⟩
    rcases h with ⟨u, q⟩ | ⟨its, node, hl, q⟩
    · cases u with
      | bl b => exact ⟨_, rfl, .inl ⟨_, "list", "bool", rfl, rfl, .bl b, _, rfl, iteF ⟨_, rfl, .inl ⟨_, "dict", "bool", rfl, rfl, .bl b, _, rfl, iteF ⟨_, rfl, .inl ⟨_, "str", "bool", rfl, rfl, .bl b, _, rfl, iteF ⟨_, rfl, _, _, rfl, .bl b, q H (Same.refl H)⟩⟩⟩⟩⟩⟩⟩
      | non => exact ⟨_, rfl, .inl ⟨_, "list", "NoneType", rfl, rfl, .non, _, rfl, iteF ⟨_, rfl, .inl ⟨_, "dict", "NoneType", rfl, rfl, .non, _, rfl, iteF ⟨_, rfl, .inl ⟨_, "str", "NoneType", rfl, rfl, .non, _, rfl, iteF ⟨_, rfl, _, _, rfl, .non, q H (Same.refl H)⟩⟩⟩⟩⟩⟩⟩
      | tup h => exact ⟨_, rfl, .inl ⟨_, "list", "tuple", rfl, rfl, .tup h, _, rfl, iteF ⟨_, rfl, .inl ⟨_, "dict", "tuple", rfl, rfl, .tup h, _, rfl, iteF ⟨_, rfl, .inl ⟨_, "str", "tuple", rfl, rfl, .tup h, _, rfl, iteF ⟨_, rfl, _, _, rfl, .tup h, q H (Same.refl H)⟩⟩⟩⟩⟩⟩⟩
      | @txt x l h =>
        refine ⟨_, rfl, .inl ⟨_, "list", "str", rfl, rfl, .str x, _, rfl, iteF ⟨_, rfl, .inl ⟨_, "dict", "str", rfl, rfl, .str x, _, rfl, iteF ⟨_, rfl, .inl ⟨_, "str", "str", rfl, rfl, .str x, _, rfl, iteT ?_⟩⟩⟩⟩⟩⟩
        refine ⟨_, rfl, x, rfl, le_line (by omega), _, _, rfl, rfl, _, rfl, ?_⟩
        by_cases h12 : x.length ≤ 12
        · refine iteBT (decide_eq_true (by omega)) ⟨_, rfl, x, rfl, by omega, fun H' s => ?_⟩
          have e : (sgn x).all isL = false := by
            unfold txtB at h
            rw [decide_eq_true h12, Bool.true_and] at h
            exact h
          rw [e]
          exact q H' s
        · have e : decide ((x.length : Int) ≤ 12) = false := decide_eq_false (by omega)
          rw [e]
          exact iteF (q H (Same.refl H))
      | @key a k v h n sh =>
        refine ⟨_, rfl, .inl ⟨_, "list", "dict", rfl, rfl, .dK h, _, rfl, iteF ?_⟩⟩
        refine ⟨_, rfl, .inl ⟨_, "dict", "dict", rfl, rfl, .dK h, _, rfl, iteT ?_⟩⟩
        refine .inl ⟨a, _, h, fun o Hf F => ⟨_, rfl, a, o, _, rfl, F.at_, ?_⟩⟩
        refine comp_grow (n := 1) (fun _ => kV k) (fun _ => .bl false) (fun _ => true) (le_line (show 1 ≤ 1000 by decide)) (fun i H2 hi s2 => ⟨s2 _ _ F.at_, hi⟩) (fun i H2 v' H' hi s2 y => ?_) (fun H2 s2 => ⟨s2 _ _ F.at_, rfl⟩) (fun i H2 R hi s2 r => by exact r H2 (Same.refl H2)) (fun i H2 R hi s2 _ r => ?_) (fun D H2 hD s2 d2 => ?_)
        · obtain ⟨e, k', w', e1, e2⟩ := y
          have z : i = 0 := by omega
          subst z
          cases (show some (k, v) = some (k', w') from e1)
          exact ⟨e2, e⟩
        · obtain ⟨T', ty⟩ := keyTy H2 k
          refine ⟨_, rfl, _, T', rfl, ty, sh, fun H3 s3 => ?_⟩
          rw [n]
          exact r H3 s3
        · refine ⟨s2 _ _ F.at_, ?_⟩
          refine ⟨D, [false], rfl, SqL.of ?_, q _ (F.back s2)⟩
          rw [back_ne (F.free hD).2, d2]
          rfl
      | @odd a o k v T' h t n sh =>
        refine ⟨_, rfl, .inr ⟨a, o, k, v, "list", rfl, rfl, h, _, rfl, iteF ?_⟩⟩
        refine ⟨_, rfl, .inr ⟨a, o, k, v, "dict", rfl, rfl, h, _, rfl, iteT ?_⟩⟩
        refine .inr ⟨_, rfl, a, o, k, v, rfl, h, ?_⟩
        refine comp_grow (n := 1) (fun _ => k) (fun _ => .bl false) (fun _ => true) (le_line (show 1 ≤ 1000 by decide)) (fun i H2 hi s2 => ⟨s2 _ _ h, by omega⟩) (fun i H2 v' H' hi s2 y => ⟨y.2, y.1⟩) (fun H2 s2 => ⟨s2 _ _ h, rfl⟩) (fun i H2 R hi s2 r => by exact r H2 (Same.refl H2)) (fun i H2 R hi s2 _ r => ?_) (fun D H2 hD s2 d2 => ?_)
        · refine ⟨_, rfl, _, _, rfl, t.same s2, sh, fun H3 s3 => ?_⟩
          rw [n]
          exact r H3 s3
        · exact ⟨D, [false], rfl, SqL.of (by rw [d2]; rfl), q _ s2⟩
    · cases node with
      | leaf h =>
        rcases h with ⟨i, rfl, hi⟩ | ⟨x, rfl, hx⟩
        · exact ⟨_, rfl, .inl ⟨_, "list", "int", rfl, rfl, .int i, _, rfl, iteF ⟨_, rfl, .inl ⟨_, "dict", "int", rfl, rfl, .int i, _, rfl, iteF ⟨_, rfl, .inl ⟨_, "str", "int", rfl, rfl, .int i, _, rfl, iteF ⟨_, rfl, _, _, rfl, .int i, q H (Same.refl H)⟩⟩⟩⟩⟩⟩⟩
        · refine ⟨_, rfl, .inl ⟨_, "list", "str", rfl, rfl, .str x, _, rfl, iteF ⟨_, rfl, .inl ⟨_, "dict", "str", rfl, rfl, .str x, _, rfl, iteF ⟨_, rfl, .inl ⟨_, "str", "str", rfl, rfl, .str x, _, rfl, iteT ?_⟩⟩⟩⟩⟩⟩
          have l12 := txtB_len hx
          have hl : (sgn x).all isL = true := by
            unfold txtB at hx
            simp only [Bool.and_eq_true] at hx
            exact hx.2
          refine ⟨_, rfl, x, rfl, le_line (by omega), _, _, rfl, rfl, _, rfl, iteBT (decide_eq_true (by omega)) ⟨_, rfl, x, rfl, by omega, fun H' s => ?_⟩⟩
          rw [hl]
          exact q H' s
      | row h => exact ⟨_, rfl, .inl ⟨_, "list", "list", rfl, rfl, .lst h, _, rfl, iteT (q H (Same.refl H))⟩⟩
      | @tab a kvs ks h hk ndp nm l =>
        refine ⟨_, rfl, .inl ⟨_, "list", "dict", rfl, rfl, .dK h, _, rfl, iteF ?_⟩⟩
        refine ⟨_, rfl, .inl ⟨_, "dict", "dict", rfl, rfl, .dK h, _, rfl, iteT ?_⟩⟩
        have kl : kvs.length = ks.length := by
          have := congrArg List.length hk
          simpa using this
        have keyAt : ∀ (i : Nat) k v, kvs[i]? = some (k, v) → i < ks.length ∧ k = Sum.inr (ks.getD i "") := fun i k v e => by
          have hi := (List.getElem?_eq_some_iff.mp e).1
          rw [kl] at hi
          refine ⟨hi, ?_⟩
          have e2 := congrArg (fun z => z[i]?) hk
          simp only [List.getElem?_map, e, List.getElem?_eq_getElem hi] at e2
          have e2 : k = Sum.inr ks[i] := by simpa using e2
          rw [e2, List.getD_eq_getElem?_getD, List.getElem?_eq_getElem hi]
          rfl
        refine .inl ⟨a, _, h, fun o Hf F => ⟨_, rfl, a, o, _, rfl, F.at_, ?_⟩⟩
        refine comp_grow (n := ks.length) (fun i => .str (ks.getD i "")) (fun _ => .bl true) (fun _ => true) (le_line (by omega)) (fun i H2 hi s2 => ⟨s2 _ _ F.at_, by rw [kl]; exact hi⟩) (fun i H2 v H' hi s2 y => ?_) (fun H2 s2 => ⟨s2 _ _ F.at_, kl.symm⟩) (fun i H2 R hi s2 r => by exact r H2 (Same.refl H2))
          (fun i H2 R hi s2 _ r => ?_) (fun D H2 hD s2 d2 => ?_)
        · obtain ⟨e, k, w', e1, e2⟩ := y
          rw [(keyAt i k w' e1).2] at e2
          exact ⟨e2, e⟩
        · have hm : ks.getD i "" ∈ ks := by
            rw [List.getD_eq_getElem?_getD, List.getElem?_eq_getElem hi]
            exact List.getElem_mem hi
          have hn := nm _ hm
          refine ⟨_, rfl, _, "str", rfl, .str _, fun x e => ?_, fun H3 s3 => ?_⟩
          · cases e
            have := (nameB_len hn).2
            omega
          · have e : nameV (.str (ks.getD i "")) = true := hn
            rw [e]
            exact r H3 s3
        · refine ⟨s2 _ _ F.at_, ?_⟩
          have Da : D ≠ a := (F.free hD).2
          have sb := F.back s2
          refine ⟨D, List.replicate ks.length true, rfl, SqL.of ?_, ?_⟩
          · rw [back_ne Da, d2]
            congr 2
            rw [List.filter_eq_self.mpr fun _ _ => rfl, List.map_replicate]
            refine List.ext_getElem (by simp) fun i h1 h2 => by simp
          · have e : (List.replicate ks.length true).all id = true := by simp
            rw [e]
            exact q _ sb
end
end K12

set_option Elab.async false
set_option linter.all false
set_option maxRecDepth 100000
set_option maxHeartbeats 40000000
namespace K12
open PySem L2
section
variable {P : Program} {w : World} {K : PySem.W.Frag} {mg : Str → Option Value} {base : Heap}
theorem scIsDoc : FnScope ["thing", "waiting", "part"] ["thing"] (defScope sIsDoc) := ⟨rfl, rfl, rfl, by decide +kernel, rfl, by decide +kernel, by decide +kernel⟩
theorem ok_IsDoc {f : Addr} {fd : FuncData} (F : Fun K "is_doc" "is_doc" sIsDoc f fd) (T : Txt mg) (DIsSound : Df P w K mg base "is_sound" ["thing"] 3 spSoundN) (DInnerOf : Df P w K mg base "inner_of" ["doc"] 2 spInnerN) : FnOk P w K mg base CX0 4 f fd ["thing"] spIsDocT := by
  obtain ⟨fIsSound, dIsSound, kIsSound, bIsSound, mIsSound, GIsSound⟩ := DIsSound.ex
  obtain ⟨fInnerOf, dInnerOf, kInnerOf, bInnerOf, mInnerOf, GInnerOf⟩ := DInnerOf.ex
  refine F.ok scIsDoc (fun vs H Q E h => ?_) (fun cdv A outer s H vs Q E hr h => ?_)
  · obtain ⟨v, b, n, k, rfl, tr, hn, q⟩ := h
    rfl
  · obtain ⟨v, b, n, k, rfl, tr, hn, q⟩ := h
    have nd := scIsDoc.nd
    have hu := hu_of hr
    have hrIsSound : Room 3 _ := hr.mono (by first | decide | omega)
    have hrInnerOf : Room 2 _ := hr.mono (by first | decide | omega)
    refine ⟨_, (pss_cons (ps_set (i := 1) nd rfl (Or.inl rfl) (pe_lst (pa_cons (pv 0) pa_nil)))
      (pss_cons (ps_while PassesOwn.never (pt_truth (pv 1) (fun _ => rfl)) (pss_cons (ps_set (i := 2) nd rfl (Or.inl rfl) (pe_bm0 PySem.F.plainAttrs_list PySem.F.slot_list_pop PySem.F.type_list_pop mt_pop (pv 1)))
      (pss_cons (ps_if (pt_not (pt_val (pe_call GIsSound hrIsSound rfl mIsSound kIsSound bIsSound .nil pass0 (pa_cons (pv 2) pa_nil)))) (pss_one (ps_ret pe_bl)) pss_nil)
      (pss_one (ps_expr (pe_bm PySem.F.plainAttrs_list PySem.F.slot_list_extend PySem.F.type_list_extend mt_extend (pv 1) (pa_cons (pe_call GInnerOf hrInnerOf rfl mInnerOf kInnerOf bInnerOf .nil pass0 (pa_cons (pv 2) pa_nil)) pa_nil)))))))
      (pss_one (ps_ret pe_bl)))), ?_⟩
    refine ⟨_, rfl, one_line, fun L hL => ?_⟩
    have s0 := Same.new (o := .lst [v]) hL
    dsimp only [gName, tSeq]
    refine while_W (fun m σ Hi => ∃ (ws : List V) (o2 : Option V), σ = [some v, some (.ref L), o2] ∧ Same H Hi ∧ Hi L = some (.lst ws) ∧ Trs H b m k ws ∧ m ≤ n)
      n ⟨[v], none, rfl, s0, upd_same, Trs.one tr, Nat.le_refl _⟩ ?_ (fun σ H Q Q' h ⟨v, e, k, t, q⟩ => ⟨v, e, k, t, h _ _ q⟩)
    rintro m σ Hi ⟨ws, o2, rfl, si, hLi, tw, hm⟩
    refine ⟨_, rfl, _, .inl ⟨_, SqL.of hLi, rfl⟩, ?_⟩
    by_cases hne : ws = []
    · subst hne
      cases tw
      exact iteF (q Hi si)
    · obtain ⟨us, x, rfl⟩ : ∃ us x, ws = us ++ [x] := ⟨ws.dropLast, ws.getLast hne, (List.dropLast_concat_getLast hne).symm⟩
      refine iteBT (by simp) ?_
      obtain ⟨c1, m1, c2, m2, t1, t2, e1, e2⟩ := tw.split
      have tx := Trs.one' t2
      have lu := t1.len
      refine ⟨_, rfl, .inl ⟨rfl, _, SqL.of hLi⟩, L, _, x, rfl, rfl, hLi, by simp, ?_⟩
      have dl : (us ++ [x]).dropLast = us := by simp
      rw [dl]
      have s1 : Same H (upd Hi L (.lst us)) := si.put hL
      clear t2
      cases tx with
      | odd hu f =>
        have hb : b = false := by rw [e1]; simp
        rw [hb] at q
        exact ⟨_, rfl, x, rfl, .inl ⟨hu.up s1, fun H1 s1' => ⟨_, rfl, iteBT rfl (q H1 (s1.trans s1'))⟩⟩⟩
      | @node _ n' k' _ its nd0 ti =>
        have li := ti.len
        refine ⟨_, rfl, x, rfl, .inr ⟨its, nd0.up s1, by omega, fun H1 s1' => ⟨_, rfl, iteBF rfl ?_⟩⟩⟩
        refine ⟨_, rfl, .inl ⟨rfl, _, SqL.of (s1' _ _ upd_same)⟩, _, rfl, x, its, rfl, (nd0.up s1).up s1', by omega, fun p es H2 s2 np hp perm => ?_⟩
        have te := (Trs.perm perm.symm (ti.deeper (Nat.le_succ _)))
        have le := perm.length_eq
        refine ⟨L, p, _, _, rfl, rfl, s2 _ _ (s1' _ _ upd_same), hp, le_line (by omega), m1 + n', by omega, us ++ es, _, rfl, ((s1.trans s1').trans s2).put hL, upd_same, (t1.append te).cast e1.symm rfl, by omega⟩
end
end K12

set_option Elab.async false
set_option linter.all false
set_option maxRecDepth 100000
set_option maxHeartbeats 40000000
namespace K12
open PySem L2
section
variable {P : Program} {w : World} {K : PySem.W.Frag} {mg : Str → Option Value} {base : Heap}
theorem scStepsOf : FnScope ["doc"] ["doc"] (defScope sStepsOf) := ⟨rfl, rfl, rfl, by decide +kernel, rfl, by decide +kernel, by decide +kernel⟩
theorem ok_StepsOf {f : Addr} {fd : FuncData} (F : Fun K "steps_of" "steps_of" sStepsOf f fd) (T : Txt mg) : FnOk P w K mg base CX0 1 f fd ["doc"] spStepsN := by
  refine F.ok scStepsOf (fun vs H Q E h => ?_) (fun cdv A outer s H vs Q E hr h => ?_)
  · obtain ⟨v, its, rfl, node, hl, q⟩ := h
    rfl
  · obtain ⟨v, its, rfl, node, hl, q⟩ := h
    have nd := scStepsOf.nd
    have hu := hu_of hr
    refine ⟨_, (pss_cons (ps_if (pt_val (pe_callB call_isiN rfl T.isinstance b_isinstance (pa_cons (pv 0) (pa_cons (pe_bltn (v := .ty "list") rfl T.list b_list rfl) pa_nil)))) (pss_one (ps_ret (pe_callTy (call_list_rng rfl) rfl T.list b_list (pa_cons (pe_range rfl T.range (pa_cons (pe_callB call_len_seq rfl T.len PySem.boot_len (pa_cons (pv 0) pa_nil)) pa_nil)) pa_nil)))) pss_nil)
      (pss_cons (ps_if (pt_val (pe_callB call_isiN rfl T.isinstance b_isinstance (pa_cons (pv 0) (pa_cons (pe_bltn (v := .ty "dict") rfl T.dict b_dict rfl) pa_nil)))) (pss_one (ps_ret (pe_callB (call_sortedD rfl) rfl T.sorted b_sorted (pa_cons (pv 0) pa_nil)))) pss_nil)
      (pss_one (ps_ret (pe_lst pa_nil))))), ?_⟩
    cases node with
    | leaf h =>
      rcases h with ⟨i, rfl, _⟩ | ⟨x, rfl, _⟩
      · refine ⟨_, rfl, _, "list", "int", rfl, rfl, .int i, _, rfl, iteF ⟨_, rfl, _, "dict", "int", rfl, rfl, .int i, _, rfl, iteF ?_⟩⟩
        exact ⟨Nat.zero_le _, fun p hp => q p [] [] _ (Same.new hp) hp upd_same (.refl _) rfl (fun i e h => by simp at h)⟩
      · refine ⟨_, rfl, _, "list", "str", rfl, rfl, .str x, _, rfl, iteF ⟨_, rfl, _, "dict", "str", rfl, rfl, .str x, _, rfl, iteF ?_⟩⟩
        exact ⟨Nat.zero_le _, fun p hp => q p [] [] _ (Same.new hp) hp upd_same (.refl _) rfl (fun i e h => by simp at h)⟩
    | @row a xs h =>
      refine ⟨_, rfl, _, "list", "list", rfl, rfl, .lst h, _, rfl, iteT ?_⟩
      refine ⟨_, rfl, a, _, rfl, .inl (.inl h), _, rfl, fun r hr => ?_⟩
      refine ⟨r, its.length, rfl, upd_same, by omega, fun p hp => ?_⟩
      exact q p _ its _ ((Same.new hr).trans (Same.new hp)) ((Same.new hr).free hp) upd_same (.refl _) (by simp) (fun i e he => ⟨_, by rw [List.getElem?_map, List.getElem?_range (List.getElem?_eq_some_iff.mp he).1]; rfl, .inl ⟨a, its, i, rfl, h, rfl, he⟩⟩)
    | @tab a kvs ks h hk ndp nm l =>
      refine ⟨_, rfl, _, "list", "dict", rfl, rfl, .dK h, _, rfl, iteF ?_⟩
      refine ⟨_, rfl, _, "dict", "dict", rfl, rfl, .dK h, _, rfl, iteT ?_⟩
      refine ⟨_, rfl, a, _, ks, rfl, h, hk, l, fun p ss' H' np s hp perm srt => ?_⟩
      obtain ⟨es, e1, e2, e3⟩ := tab_perm hk ndp perm
      exact q p _ es H' s np hp e1 (by rw [List.length_map]; exact e2) (fun i e he => by
        obtain ⟨k, k1, k2⟩ := e3 i e he
        exact ⟨.str k, by rw [List.getElem?_map, k1]; rfl, .inr ⟨a, kvs, k, rfl, h, rfl, k2⟩⟩)
end
end K12

set_option Elab.async false
set_option linter.all false
set_option maxRecDepth 100000
set_option maxHeartbeats 40000000
namespace K12
open PySem L2
section
variable {P : Program} {w : World} {K : PySem.W.Frag} {mg : Str → Option Value} {base : Heap}
theorem scInnerOf : FnScope ["doc"] ["doc"] (defScope sInnerOf) := ⟨rfl, rfl, rfl, by decide +kernel, rfl, by decide +kernel, by decide +kernel⟩
theorem ok_InnerOf {f : Addr} {fd : FuncData} (F : Fun K "inner_of" "inner_of" sInnerOf f fd) (T : Txt mg) (DStepsOf : Df P w K mg base "steps_of" ["doc"] 1 spStepsN) : FnOk P w K mg base CX0 2 f fd ["doc"] spInnerN := by
  obtain ⟨fStepsOf, dStepsOf, kStepsOf, bStepsOf, mStepsOf, GStepsOf⟩ := DStepsOf.ex
  refine F.ok scInnerOf (fun vs H Q E h => ?_) (fun cdv A outer s H vs Q E hr h => ?_)
  · obtain ⟨v, its, rfl, node, hl, q⟩ := h
    rfl
  · obtain ⟨v, its, rfl, node, hl, q⟩ := h
    have nd := scInnerOf.nd
    have hu := hu_of hr
    have hrStepsOf : Room 1 _ := hr.mono (by first | decide | omega)
    refine ⟨_, (pss_one (ps_ret (pe_comp (fv := ["doc"]) (fs := [0]) rfl (.of (by rfl)) (pi_list (pe_call GStepsOf hrStepsOf rfl mStepsOf kStepsOf bStepsOf .nil pass0 (pa_cons (pv 0) pa_nil))) (fun _ _ _ _ => pts_nil) (fun C s0 H0 fp => (pe_alt (pe_ix (r := rIxL K) ix_list (pv 1) (pv 0) (fun _ _ => rfl)) (pe_dget hu (pv 1) (pv 0) (fun _ _ => rfl))))))), ?_⟩
    refine ⟨_, rfl, v, its, rfl, node, hl, fun p l es H1 s1 np hp pe le ae => ?_⟩
    have hl' : l.length ≤ 900 := by rw [← le, pe.length_eq]; exact hl
    have gi : ∀ {i : Nat} {x : V}, l[i]? = some x → l.getD i .non = x := fun h => by rw [List.getD_eq_getElem?_getD, h]; rfl
    refine ⟨p, rfl, ⟨_, SqL.of hp⟩, ?_⟩
    refine comp_pure (n := l.length) (fun i => l.getD i .non) (fun i => es.getD i .non) (fun _ => true) (le_line (by omega)) (fun i D ys hi hD => ⟨_, _, (Same.new hD).seq (SqL.of hp), List.getElem?_eq_getElem hi⟩) (fun i D ys v H' hi hD y => ?_)
      (fun D ys hD => ⟨_, (Same.new hD).seq (SqL.of hp), Nat.le_refl _⟩) (fun i D ys R hi hD r => by exact r) (fun i D ys R hi hD _ r => ?_) (fun D hD => ?_)
    · obtain ⟨e, y⟩ := y
      exact ⟨(gi (y _ ((Same.new hD).seq (SqL.of hp)))).symm, e⟩
    · obtain ⟨x, hx⟩ : ∃ x, es[i]? = some x := ⟨_, List.getElem?_eq_getElem (by rw [le]; exact hi)⟩
      have ex : es.getD i .non = x := by rw [List.getD_eq_getElem?_getD, hx]; rfl
      rw [ex] at r
      have sD := s1.trans (Same.new (o := .lst ys) hD)
      obtain ⟨st, hst, g⟩ := ae i x hx
      rw [gi hst]
      rcases g with ⟨a, xs, j, rfl, h, rfl, e2⟩ | ⟨a, kvs, k, rfl, h, rfl, e2⟩
      · exact .inl ⟨_, rfl, _, rfl, a, _, _, _, rfl, rfl, .inl (h.up (sD _)), atI_nat e2, r⟩
      · refine .inr ⟨_, rfl, _, rfl, a, x, rfl, ?_, r⟩
        rw [← e2]
        exact .inl ⟨_, Sum.inr k, h.up (sD _), rfl, rfl⟩
    · refine q D es _ (s1.trans (Same.new hD)) (s1.free hD) ?_ pe
      rw [upd_same]
      congr 2
      rw [List.filter_eq_self.mpr fun _ _ => rfl]
      refine List.ext_getElem (by simp [le]) fun i h1 h2 => ?_
      simp only [List.getElem_map, List.getElem_range]
      rw [List.getD_eq_getElem?_getD, List.getElem?_eq_getElem h2]
      rfl
end
end K12

set_option Elab.async false
set_option linter.all false
set_option maxRecDepth 100000
set_option maxHeartbeats 40000000
namespace K12
open PySem L2
section
variable {P : Program} {w : World} {K : PySem.W.Frag} {mg : Str → Option Value} {base : Heap}
theorem scCell : FnScope ["_law_script", "_law_k"] ["_law_script", "_law_k"] (defScope sCell) := ⟨rfl, rfl, rfl, by decide +kernel, rfl, by decide +kernel, by decide +kernel⟩
theorem ok_Cell {f : Addr} {fd : FuncData} (F : Fun K "_law_cell" "_law_cell" sCell f fd) (T : Txt mg) : FnOk P w K mg base CX0 1 f fd ["_law_script", "_law_k"] (spCell K) := by
  refine F.ok scCell (fun vs H Q E h => ?_) (fun cdv A outer s H vs Q E hr h => ?_)
  · obtain ⟨a, ns, k, rfl, hS, q⟩ := h
    rfl
  · obtain ⟨a, ns, k, rfl, hS, q⟩ := h
    have nd := scCell.nd
    have hu := hu_of hr
    refine ⟨_, (pss_cons (ps_if (pt_cmpR op_lt (pv 1) (pe_callB call_len_seq rfl T.len PySem.boot_len (pa_cons (pv 0) pa_nil)) (nomark _)) (pss_one (ps_ret (pe_op op_mod (pe_ix (r := rIxL K) ix_list (pv 0) (pv 1) (fun _ _ => rfl)) (pe_op op_pow pe_int pe_int)))) pss_nil)
      (pss_one (ps_ret (pe_op op_add pe_int (pe_op op_mul pe_int (pv 1)))))), ?_⟩
    refine ⟨_, rfl, _, rfl, a, _, rfl, .inl hS, _, _, rfl, rfl, _, rfl, ?_⟩
    refine ite2 (fun h1 => ?_) (fun h1 => ?_)
    · have hk : k < ns.length := by
        have := of_decide_eq_true h1
        rw [List.length_map] at this
        omega
      have hx : (ns.map V.int)[k]? = some (.int ns[k]) := by rw [List.getElem?_map, List.getElem?_eq_getElem hk]; rfl
      exact ⟨_, rfl, _, rfl, a, _, _, _, rfl, rfl, hS, atI_nat hx, _, _, rfl, rfl, ⟨by decide, by decide, by decide⟩, _, _, rfl, rfl, (by show (0 : Int) < _; decide), q _ (Int.emod_nonneg _ (by decide))⟩
    · exact ⟨_, rfl, _, _, rfl, rfl, .inl ⟨by decide, by decide⟩, _, _, rfl, rfl, q _ (by omega)⟩
end
end K12

set_option Elab.async false
set_option linter.all false
set_option maxRecDepth 100000
set_option maxHeartbeats 40000000
namespace K12
open PySem L2
section
variable {P : Program} {w : World} {K : PySem.W.Frag} {mg : Str → Option Value} {base : Heap}
theorem scMix : FnScope ["_law_cell_here", "_law_k", "_law_number", "_law_j"] ["_law_cell_here", "_law_k"] (defScope sMix) := ⟨rfl, rfl, rfl, by decide +kernel, rfl, by decide +kernel, by decide +kernel⟩
theorem ok_Mix {f : Addr} {fd : FuncData} (F : Fun K "_law_mix" "_law_mix" sMix f fd) (T : Txt mg) : FnOk P w K mg base CX0 1 f fd ["_law_cell_here", "_law_k"] spMixF := by
  refine F.ok scMix (fun vs H Q E h => ?_) (fun cdv A outer s H vs Q E hr h => ?_)
  · obtain ⟨c, k, rfl, hk, q⟩ := h
    rfl
  · obtain ⟨c, k, rfl, hk, q⟩ := h
    have nd := scMix.nd
    have hu := hu_of hr
    refine ⟨_, (pss_cons (ps_if (PW.pt (pw_and (pt_cmpR op_eq (pe_op op_mod (pv 0) pe_int) pe_int (nomark _)) (pw_and1 (pt_cmpR op_ge (pv 0) (pe_op op_mul pe_int (pe_op op_pow pe_int pe_int)) (nomark _))))) (pss_cons (ps_set (i := 2) nd rfl (Or.inl rfl) (pe_op op_fdiv (pv 0) pe_int))
      (pss_cons (ps_for PassesOwn.never rfl (pi_range1 rfl T.range (pa_cons (pv 1) pa_nil)) (pg_name (i := 3) nd rfl (Or.inl rfl)) (pss_one (ps_set (i := 2) nd rfl (Or.inl rfl) (pe_op op_fdiv (pv 2) pe_int))))
      (pss_one (ps_ret (pe_op op_mod (pv 2) pe_int))))) pss_nil)
      (pss_cons (ps_set (i := 2) nd rfl (Or.inl rfl) (pe_op op_mod (pe_op op_mul (pe_op op_add (pv 0) pe_int) pe_int) pe_int))
      (pss_cons (ps_set (i := 2) nd rfl (Or.inl rfl) (pe_op op_mod (pe_op op_add (pv 2) (pe_op op_mul (pe_op op_add (pv 1) pe_int) pe_int)) pe_int))
      (pss_cons (ps_set (i := 2) nd rfl (Or.inl rfl) (pe_op op_mod (pe_op op_mul (pv 2) (pv 2)) pe_int))
      (pss_cons (ps_set (i := 2) nd rfl (Or.inl rfl) (pe_op op_mod (pe_op op_mul (pe_op op_add (pv 2) pe_int) (pe_op op_add (pe_op op_fdiv (pv 2) pe_int) pe_int)) pe_int))
      (pss_one (ps_ret (pe_op op_fdiv (pv 2) pe_int)))))))), ?_⟩
    have lo : ∀ x : Int, -(2 ^ 64) < x % 2305843009213693951 ∧ x % 2305843009213693951 < 2 ^ 64 := fun x => by
      have h1 := Int.emod_nonneg x (show (2305843009213693951 : Int) ≠ 0 by decide)
      have h2 := Int.emod_lt_of_pos x (show (0 : Int) < 2305843009213693951 by decide)
      constructor <;> omega
    have lo1 : ∀ x : Int, -(2 ^ 64) < x % 999999999999999989 + 1 ∧ x % 999999999999999989 + 1 < 2 ^ 64 := fun x => by
      have h1 := Int.emod_nonneg x (show (999999999999999989 : Int) ≠ 0 by decide)
      have h2 := Int.emod_lt_of_pos x (show (0 : Int) < 999999999999999989 by decide)
      constructor <;> omega
    have q2 : ¬ (c % 4 = 0 ∧ 4 * 10 ^ 60 ≤ c) → Q (.int ((mixN c k + 1) * (mixN c k / 1000003 + 7) % 2305843009213693951 / 7919)) H := fun h => by
      have e : mixF c k = _ := if_neg h
      rw [e] at q
      exact q
    refine ⟨_, rfl, _, _, rfl, rfl, (by show (0 : Int) < _; decide), rfl, _, rfl, ?_⟩
    refine ite2 (fun h1 => ?_) (fun h1 => ?_)
    · refine ⟨_, rfl, _, _, rfl, rfl, ⟨by decide, by decide, by decide⟩, _, _, rfl, rfl, .inl ⟨by decide, by decide⟩, _, _, rfl, rfl, _, rfl, ?_⟩
      have c4 : c % 4 = 0 := V.int.inj (of_decide_eq_true h1)
      refine ite2 (fun h2 => ?_) (fun h2 => ?_)
      · have c60 : 4 * 10 ^ 60 ≤ c := of_decide_eq_true h2
        have e : mixF c k = _ := if_pos ⟨c4, c60⟩
        rw [e] at q
        refine ⟨_, rfl, _, _, rfl, rfl, ⟨by decide, by decide⟩, ?_⟩
        refine ⟨_, rfl, _, rfl, by omega, by omega, for_range (lo := 0) (fun i σ H2 => ∃ (oj : Option V), σ = [some (.int c), some (.int (k : Int)), some (.int (divs i (c / 4))), oj] ∧ H2 = H) ⟨none, rfl, rfl⟩ ?_ ?_⟩
        · rintro i σ H2 hi ⟨oj, rfl, rfl⟩
          exact ⟨_, rfl, _, _, rfl, rfl, ⟨by decide, by decide⟩, _, rfl, rfl⟩
        · rintro σ H2 ⟨oj, rfl, rfl⟩
          rw [Int.toNat_natCast]
          exact ⟨_, rfl, _, _, rfl, rfl, (by show (0 : Int) < _; decide), q⟩
      · have hno : ¬ (c % 4 = 0 ∧ 4 * 10 ^ 60 ≤ c) := fun z => h2 (decide_eq_true z.2)
        refine ⟨_, rfl, _, _, rfl, rfl, _, _, rfl, rfl, .inr ⟨by decide, by decide⟩, _, _, rfl, rfl, (by show (0 : Int) < _; decide), ?_⟩
        refine ⟨_, rfl, _, rfl, _, _, rfl, rfl, _, _, rfl, rfl, .inr ⟨by decide, by decide⟩, _, _, rfl, rfl, _, _, rfl, rfl, (by show (0 : Int) < _; decide), ?_⟩
        refine ⟨_, rfl, _, rfl, _, _, rfl, rfl, .inl (lo _), _, _, rfl, rfl, (by show (0 : Int) < _; decide), ?_⟩
        refine ⟨_, rfl, _, _, rfl, rfl, _, rfl, _, _, rfl, rfl, ⟨by decide, by decide⟩, _, _, rfl, rfl, _, _, rfl, rfl, .inl (lo1 _), _, _, rfl, rfl, (by show (0 : Int) < _; decide), ?_⟩
        exact ⟨_, rfl, _, _, rfl, rfl, ⟨by decide, by decide⟩, q2 hno⟩
    · refine iteF ?_
      have hno : ¬ (c % 4 = 0 ∧ 4 * 10 ^ 60 ≤ c) := fun z => h1 (decide_eq_true (congrArg V.int z.1))
      refine ⟨_, rfl, _, _, rfl, rfl, _, _, rfl, rfl, .inr ⟨by decide, by decide⟩, _, _, rfl, rfl, (by show (0 : Int) < _; decide), ?_⟩
      refine ⟨_, rfl, _, rfl, _, _, rfl, rfl, _, _, rfl, rfl, .inr ⟨by decide, by decide⟩, _, _, rfl, rfl, _, _, rfl, rfl, (by show (0 : Int) < _; decide), ?_⟩
      refine ⟨_, rfl, _, rfl, _, _, rfl, rfl, .inl (lo _), _, _, rfl, rfl, (by show (0 : Int) < _; decide), ?_⟩
      refine ⟨_, rfl, _, _, rfl, rfl, _, rfl, _, _, rfl, rfl, ⟨by decide, by decide⟩, _, _, rfl, rfl, _, _, rfl, rfl, .inl (lo1 _), _, _, rfl, rfl, (by show (0 : Int) < _; decide), ?_⟩
      exact ⟨_, rfl, _, _, rfl, rfl, ⟨by decide, by decide⟩, q2 hno⟩
theorem okW_Mix {f : Addr} {fd : FuncData} (F : Fun K "_law_mix" "_law_mix" sMix f fd) (T : Txt mg) : FnOk P w K mg base CX0 1 f fd ["_law_cell_here", "_law_k"] spMix := (ok_Mix F T).imp fun _ _ _ _ h => spMix_of h
end
end K12

set_option Elab.async false
set_option linter.all false
set_option maxRecDepth 100000
set_option maxHeartbeats 40000000
namespace K12
open PySem L2
section
variable {P : Program} {w : World} {K : PySem.W.Frag} {mg : Str → Option Value} {base : Heap}
theorem scNames : FnScope ["_law_one", "_law_two", "_law_letters", "_law_word", "_law_size", "_law_at", "_law_shift", "_law_names_here", "_law_k", "_law_sign"] ["_law_one", "_law_two"] (defScope sNames) := ⟨rfl, rfl, rfl, by decide +kernel, rfl, by decide +kernel, by decide +kernel⟩
theorem ok_Names {f : Addr} {fd : FuncData} (F : Fun K "_law_names" "_law_names" sNames f fd) (T : Txt mg) (DMix : Df P w K mg base "_law_mix" ["_law_cell_here", "_law_k"] 1 spMixF) : FnOk P w K mg base CX0 2 f fd ["_law_one", "_law_two"] spNames := by
  obtain ⟨fMix, dMix, kMix, bMix, mMix, GMix⟩ := DMix.ex
  refine F.ok scNames (fun vs H Q E h => ?_) (fun cdv A outer s H vs Q E hr h => ?_)
  · obtain ⟨c, d, rfl, q⟩ := h
    rfl
  · obtain ⟨c, d, rfl, q⟩ := h
    have nd := scNames.nd
    have hu := hu_of hr
    have hrMix : Room 1 _ := hr.mono (by first | decide | omega)
    refine ⟨_, (pss_cons (ps_set (i := 2) nd rfl (Or.inr rfl) pe_str)
      (pss_cons (ps_set (i := 3) nd rfl (Or.inl rfl) (pe_bm PySem.F.plainAttrs_str PySem.F.slot_str_join PySem.F.type_str_join mt_join pe_str (pa_cons (pe_comp (fv := ["_law_letters", "_law_one"]) (fs := [2, 0]) rfl (.of (by rfl)) (pi_range1 rfl T.range (pa_cons pe_int pa_nil)) (fun _ _ _ _ => pts_nil) (fun C s0 H0 fp => (pe_ix ix_str (pv 1) (pe_op op_mod (pe_call GMix hrMix rfl mMix kMix bMix .nil pass0 (pa_cons (pv 2) (pa_cons (pv 0) pa_nil))) pe_int) (fun _ _ => rfl)))) pa_nil)))
      (pss_cons (ps_set (i := 4) nd rfl (Or.inl rfl) (pe_op op_add pe_int (pe_op op_mod (pe_call GMix hrMix rfl mMix kMix bMix .nil pass0 (pa_cons (pv 1) (pa_cons pe_int pa_nil))) pe_int)))
      (pss_cons (ps_set (i := 5) nd rfl (Or.inl rfl) (pe_op op_mod (pe_call GMix hrMix rfl mMix kMix bMix .nil pass0 (pa_cons (pv 1) (pa_cons pe_int pa_nil))) (pv 4)))
      (pss_cons (ps_set (i := 6) nd rfl (Or.inl rfl) (pe_op op_mod (pe_call GMix hrMix rfl mMix kMix bMix .nil pass0 (pa_cons (pv 1) (pa_cons pe_int pa_nil))) pe_int))
      (pss_cons (ps_set (i := 7) nd rfl (Or.inl rfl) (pe_lst pa_nil))
      (pss_cons (ps_for PassesOwn.never rfl (pi_range1 rfl T.range (pa_cons pe_int pa_nil)) (pg_name (i := 8) nd rfl (Or.inl rfl)) (pss_one (ps_if (pt_cmpR op_eq (pe_op op_mod (pe_call GMix hrMix rfl mMix kMix bMix .nil pass0 (pa_cons (pv 1) (pa_cons pe_int pa_nil))) pe_int) pe_int (nomark _)) (pss_one (ps_expr (pe_bm PySem.F.plainAttrs_list PySem.F.slot_list_append PySem.F.type_list_append mt_append (pv 7) (pa_cons (pe_slice sl_str (pv 3) po_none (po_some (pe_op op_add (pe_op op_add (pv 8) pe_int) (pe_op op_mod (pv 6) pe_int)))) pa_nil)))) (pss_cons (ps_set (i := 9) nd rfl (Or.inl rfl) (pe_ix ix_str (pv 2) (pe_op op_mod (pe_op op_add (pv 6) (pe_op op_mul pe_int (pv 8))) pe_int) (fun _ _ => rfl)))
      (pss_one (ps_expr (pe_bm PySem.F.plainAttrs_list PySem.F.slot_list_append PySem.F.type_list_append mt_append (pv 7) (pa_cons (pe_op op_add_str (pe_op op_add_str (pe_slice sl_str (pv 3) po_none (po_some (pv 5))) (pv 9)) (pe_slice sl_str (pv 3) (po_some (pe_op op_add (pv 5) pe_int)) (po_some (pv 4)))) pa_nil))))))))
      (pss_one (ps_ret (pv 7)))))))))), ?_⟩
    refine ⟨rfl, 8, rfl, by decide, by decide, comp_rel (n := 8) (fun i => .int (0 + (i : Int))) (fun _ v => OneL v) (by decide) (fun i H2 hi s2 => hi) (fun i H2 v H' hi s2 y => ⟨y.2, y.1⟩) (fun H2 s2 => Nat.le_refl _) (fun i H2 R hi s2 r => ?_) (fun D H2 ys hD s2 d2 ly oy => ?_)⟩
    · refine ⟨_, rfl, _, rfl, _, rfl, c, i, by simp, by omega, ?_⟩
      obtain ⟨ch, hat, hl⟩ := at_let (mixF c i % 26) (mod26 _).1 (mod26 _).2
      exact ⟨_, _, rfl, rfl, (by show (0 : Int) < _; decide), abc, _, ch, rfl, rfl, by decide, hat, r _ H2 (Same.refl H2) ⟨ch, rfl, hl⟩⟩
    · obtain ⟨zs, e1, h1, h2, h3⟩ := oneL_list ys fun y hy => by
        obtain ⟨j, hj, e⟩ := List.mem_iff_getElem.mp hy
        exact oy j y (by rw [List.getElem?_eq_getElem hj, e])
      subst e1
      have lz : zs.length = 8 := by rw [← ly, List.length_map]
      have sz : ∀ zs : List Str, (∀ z ∈ zs, z.length = 1) → (zs.map (·.length)).sum = zs.length := by
        intro zs
        induction zs with
        | nil => intro _; rfl
        | cons z r ih =>
          intro h
          rw [List.map_cons, List.sum_cons, ih fun y hy => h y (List.mem_cons_of_mem _ hy), h z List.mem_cons_self, List.length_cons]
          omega
      refine ⟨_, D, zs, rfl, rfl, SqL.of d2, ?_, ?_⟩
      · rw [sz zs h1, lz]
        decide
      obtain ⟨W, hW⟩ : ∃ W, W = Txt.join "" zs := ⟨_, rfl⟩
      have w8 : (sgn W).length = 8 := by rw [hW, sgn_join, h2, List.length_map, lz]
      have wL : (sgn W).all isL = true := by rw [hW, sgn_join]; exact h3
      have wz : W.length = 8 := by rw [← sgn_length]; exact w8
      rw [← hW]
      obtain ⟨r1, hr1⟩ : ∃ r, r = mixF d 0 := ⟨_, rfl⟩
      refine ⟨_, rfl, d, 0, rfl, by decide, _, _, rfl, rfl, (by show (0 : Int) < _; decide), _, _, rfl, rfl, ?_⟩
      rw [← hr1]
      have b1 : 0 ≤ r1 % 8 ∧ r1 % 8 < 8 := ⟨Int.emod_nonneg _ (by decide), Int.emod_lt_of_pos _ (by decide)⟩
      obtain ⟨sz1, hs1⟩ : ∃ z : Nat, 1 + r1 % 8 = (z : Int) := ⟨(1 + r1 % 8).toNat, by omega⟩
      have bs : 1 ≤ sz1 ∧ sz1 ≤ 8 := by omega
      obtain ⟨r2, hr2⟩ : ∃ r, r = mixF d 1 := ⟨_, rfl⟩
      refine ⟨_, rfl, d, 1, rfl, by decide, _, rfl, _, _, rfl, rfl, (by show (0 : Int) < 1 + r1 % 8; omega), ?_⟩
      rw [← hr2]
      have b2 : 0 ≤ r2 % (1 + r1 % 8) ∧ r2 % (1 + r1 % 8) < 1 + r1 % 8 := ⟨Int.emod_nonneg _ (by omega), Int.emod_lt_of_pos _ (by omega)⟩
      obtain ⟨at1, ha1⟩ : ∃ z : Nat, r2 % (1 + r1 % 8) = (z : Int) := ⟨(r2 % (1 + r1 % 8)).toNat, by omega⟩
      have b2' : at1 < sz1 := by omega
      obtain ⟨r3, hr3⟩ : ∃ r, r = mixF d 2 := ⟨_, rfl⟩
      refine ⟨_, rfl, d, 2, rfl, by decide, _, _, rfl, rfl, (by show (0 : Int) < _; decide), ?_⟩
      rw [← hr3]
      have b3 := mod26 r3
      obtain ⟨szI, eszI⟩ : ∃ z : Int, z = 1 + r1 % 8 := ⟨_, rfl⟩
      obtain ⟨atI1, eatI⟩ : ∃ z : Int, z = r2 % (1 + r1 % 8) := ⟨_, rfl⟩
      obtain ⟨sh, esh⟩ : ∃ z : Int, z = r3 % 26 := ⟨_, rfl⟩
      obtain ⟨r4, hr4⟩ : ∃ r, r = mixF d 3 := ⟨_, rfl⟩
      obtain ⟨NmP, hNm⟩ : ∃ NmP : Nat → Str → Prop, NmP = fun (j : Nat) (y : Str) => if r4 % 3 = 0 then ((sgn y).length : Int) = (j : Int) + 1 + sh % 3 else (sgn y)[at1]? = LET[((sh + 5 * (j : Int)) % 26).toNat]? := ⟨_, rfl⟩
      refine ⟨Nat.zero_le _, fun p hp => ?_⟩
      have pf : H p = none := s2.free hp
      refine ⟨6, rfl, by decide, by decide, for_range (lo := 0) (n := 6) (fun i σ H3 => ∃ (ys : List Str) (ok os : Option V), σ = [some (.int c), some (.int d), some (.str abc), some (.str W), some (.int szI), some (.int atI1), some (.int sh), some (.ref p), ok, os] ∧
        Same H H3 ∧ H3 p = some (.lst (ys.map V.str)) ∧ ys.length = i ∧ (∀ (j : Nat) y, ys[j]? = some y → NmP j y) ∧ ∀ y ∈ ys, nameB y = true) ⟨[], none, none, by rw [eszI, eatI, esh]; rfl, s2.put pf, upd_same, rfl, fun j y hy => (by simp at hy), fun y hy => nomatch hy⟩ ?_ ?_⟩
      · rintro i σ H3 hi ⟨ys, ok, os, rfl, s3, d3, ly3, pm, ny⟩
        have more : ∀ (y : Str) (oo os' : Option V), NmP i y ∧ nameB y = true → ∃ (ys' : List Str) (ok os : Option V), [some (V.int c), some (V.int d), some (V.str abc), some (V.str W), some (V.int szI), some (V.int atI1), some (V.int sh), some (V.ref p), oo, os'] =
            [some (V.int c), some (V.int d), some (V.str abc), some (V.str W), some (V.int szI), some (V.int atI1), some (V.int sh), some (V.ref p), ok, os] ∧
            Same H (upd H3 p (.lst (ys.map V.str ++ [.str y]))) ∧ upd H3 p (.lst (ys.map V.str ++ [.str y])) p = some (.lst (ys'.map V.str)) ∧ ys'.length = i + 1 ∧ (∀ (j : Nat) y, ys'[j]? = some y → NmP j y) ∧ ∀ z ∈ ys', nameB z = true := fun y oo os' hy =>
          ⟨ys ++ [y], oo, os', rfl, s3.put pf, by rw [upd_same, List.map_append]; rfl, by simp [ly3], fun j z hj => by
            by_cases hji : j < ys.length
            · rw [List.getElem?_append_left hji] at hj
              exact pm j z hj
            · have hl := (List.getElem?_eq_some_iff.mp hj).1
              rw [List.length_append, List.length_singleton] at hl
              have e : j = i := by omega
              subst e
              rw [List.getElem?_append_right (by omega), ly3, Nat.sub_self] at hj
              have e : y = z := by simpa using hj
              rw [← e]
              exact hy.1, fun z hz => (List.mem_append.mp hz).elim (ny z) fun hz => by rw [List.mem_singleton.mp hz]; exact hy.2⟩
        have lz3 : (ys.map V.str).length < sizeLine := small1000 (by rw [List.length_map]; omega)
        refine ⟨_, rfl, d, 3, rfl, by decide, _, _, rfl, rfl, (by show (0 : Int) < _; decide), rfl, _, rfl, ?_⟩
        rw [← hr4]
        refine ite2 (fun h4 => ?_) (fun h4 => ?_)
        · refine ⟨_, rfl, .inl ⟨rfl, _, SqL.of d3⟩, _, rfl, _, rfl, _, _, rfl, rfl, _, rfl, _, _, rfl, rfl, (by show (0 : Int) < _; decide), _, _, rfl, rfl, _, rfl, W, rfl, by rw [wz]; decide, p, _, _, rfl, rfl, d3, lz3, more _ _ _ ⟨?_, ?_⟩⟩
          · have c4 : r4 % 3 = 0 := V.int.inj (of_decide_eq_true h4)
            rw [hNm]
            simp only [if_pos c4]
            obtain ⟨n, hn⟩ : ∃ n : Nat, 0 + (i : Int) + 1 + sh % 3 = (n : Int) := ⟨(0 + (i : Int) + 1 + sh % 3).toNat, by omega⟩
            rw [hn, sgn_slice, cut_to, List.length_take, w8]
            omega
          obtain ⟨n, hn⟩ : ∃ n : Nat, 0 + (i : Int) + 1 + sh % 3 = (n : Int) := ⟨(0 + (i : Int) + 1 + sh % 3).toNat, by omega⟩
          show nameS (sgn (Txt.slice W none (some (0 + (i : Int) + 1 + sh % 3)))) = true
          rw [hn, sgn_slice, cut_to]
          refine nameS_mk ?_ ?_ (all_take wL n)
          · rw [List.length_take, w8]; omega
          · rw [List.length_take, w8]; omega
        · obtain ⟨ch, hat, hl⟩ := at_let ((sh + 5 * (0 + (i : Int))) % 26) (mod26 _).1 (mod26 _).2
          refine ⟨_, rfl, _, rfl, _, rfl, _, _, rfl, rfl, .inl ⟨by decide, by decide⟩, _, _, rfl, rfl, _, _, rfl, rfl, (by show (0 : Int) < _; decide), abc, _, ch, rfl, rfl, by decide, hat, ?_⟩
          have l1 : (Txt.slice W none (some atI1)).length ≤ 8 := by rw [← wz]; exact Txt.slice_le W _ _
          have l2 : (Txt.slice W (some (atI1 + 1)) (some szI)).length ≤ 8 := by rw [← wz]; exact Txt.slice_le W _ _
          have l3 : (Txt.slice W none (some atI1) ++ (⟨#[ch]⟩ : Str)).length ≤ 9 := by rw [Str.length_append]; show _ + 1 ≤ 9; omega
          refine ⟨_, rfl, .inl ⟨rfl, _, SqL.of d3⟩, _, rfl, _, rfl, _, rfl, W, rfl, by rw [wz]; decide, _, rfl, _, _, rfl, rfl, ?_, _, rfl, _, rfl, _, _, rfl, rfl, _, rfl, _, rfl, _, rfl, W, rfl, by rw [wz]; decide, _, _, rfl, rfl, ?_, p, _, _, rfl, rfl, d3, lz3, more _ _ _ ⟨?_, ?_⟩⟩
          · exact Nat.le_of_lt (small1000 (by show (Txt.slice W none (some atI1)).length + 1 ≤ 1000; omega))
          · exact Nat.le_of_lt (small1000 (by omega))
          · have c4 : ¬ r4 % 3 = 0 := fun z => h4 (decide_eq_true (congrArg V.int z))
            rw [hNm]
            simp only [if_neg c4]
            have e0 : atI1 = (at1 : Int) := by omega
            rw [sgn_append, sgn_append, sgn_slice, e0, cut_to]
            have ec : sgn ⟨#[ch]⟩ = [ch] := rfl
            rw [ec]
            have lt : ((sgn W).take at1).length = at1 := by rw [List.length_take, w8]; omega
            rw [List.getElem?_append_left (by rw [List.length_append, lt, List.length_singleton]; omega), List.getElem?_append_right (by rw [lt]; exact Nat.le_refl _), lt, Nat.sub_self]
            have hb := mod26 (sh + 5 * (0 + (i : Int)))
            obtain ⟨m, hm⟩ : ∃ m : Nat, (sh + 5 * (0 + (i : Int))) % 26 = (m : Int) := ⟨((sh + 5 * (0 + (i : Int))) % 26).toNat, by omega⟩
            have hz : (sh + 5 * (i : Int)) % 26 = (m : Int) := by rw [← hm, Int.zero_add]
            rw [hz, Int.toNat_natCast]
            rw [hm] at hat
            obtain ⟨j', g1, g2, g3, _⟩ := atI_get hat
            have : j' = m := by
              have hm26 : m < (sgn abc).length := by show m < LET.length; rw [LET_len]; omega
              have := atI_nat (xs := sgn abc) (j := m) (List.getElem?_eq_getElem hm26)
              obtain ⟨j2, k1, _⟩ := atI_get this
              have q1 : ixN (sgn abc).length (m : Int) = some m := by
                unfold ixN
                rw [if_pos (by omega), if_pos (by omega), Int.toNat_natCast]
              have := (ixN_seq q1).1
              rw [this] at g1
              exact (Option.some.inj g1).symm
            rw [this] at g2
            exact g2.symm
          · show nameS (sgn (Txt.slice W none (some atI1) ++ ⟨#[ch]⟩ ++ Txt.slice W (some (atI1 + 1)) (some szI))) = true
            have e0 : atI1 = (at1 : Int) := by omega
            have e1 : (at1 : Int) + 1 = ((at1 + 1 : Nat) : Int) := by omega
            have e2 : szI = (sz1 : Int) := by omega
            rw [sgn_append, sgn_append, sgn_slice, sgn_slice, e0, e1, e2, cut_to, cut_mid _ _ _ (by omega) (by rw [w8]; omega)]
            have ec : sgn ⟨#[ch]⟩ = [ch] := rfl
            rw [ec]
            refine nameS_mk ?_ ?_ ?_
            · simp only [List.length_append, List.length_take, List.length_drop, w8, List.length_singleton]; omega
            · simp only [List.length_append, List.length_take, List.length_drop, w8, List.length_singleton]; omega
            · rw [List.all_append, List.all_append, all_take wL, all_drop (all_take wL sz1)]
              simp [hl]
      · rintro σ H3 ⟨ys, ok, os, rfl, s3, d3, ly3, pm, ny⟩
        refine ⟨_, rfl, q p ys H3 s3 pf d3 ly3 (nodup_by NmP pm fun i j y hij hj p1 p2 => ?_) ny⟩
        rw [hNm] at p1 p2
        have hb := (mod26 (sh + 5 * (i : Int)))
        have hb2 := (mod26 (sh + 5 * (j : Int)))
        by_cases c4 : r4 % 3 = 0
        · simp only [if_pos c4] at p1 p2
          omega
        · simp only [if_neg c4] at p1 p2
          rw [p1] at p2
          have nl : LET.Nodup := by decide +kernel
          have h1 : ((sh + 5 * (i : Int)) % 26).toNat < LET.length := by rw [LET_len]; omega
          have := (List.getElem?_inj h1 nl).mp p2
          omega
end
end K12

set_option Elab.async false
set_option linter.all false
set_option maxRecDepth 100000
set_option maxHeartbeats 40000000
namespace K12
open PySem L2
section
variable {P : Program} {w : World} {K : PySem.W.Frag} {mg : Str → Option Value} {base : Heap}
theorem scLeaf : FnScope ["_law_cell_here", "_law_number", "_law_great"] ["_law_cell_here"] (defScope sLeaf) := ⟨rfl, rfl, rfl, by decide +kernel, rfl, by decide +kernel, by decide +kernel⟩
theorem ok_Leaf {f : Addr} {fd : FuncData} (F : Fun K "_law_leaf" "_law_leaf" sLeaf f fd) (T : Txt mg) (DMix : Df P w K mg base "_law_mix" ["_law_cell_here", "_law_k"] 1 spMix) : FnOk P w K mg base CX0 2 f fd ["_law_cell_here"] spLeaf := by
  obtain ⟨fMix, dMix, kMix, bMix, mMix, GMix⟩ := DMix.ex
  refine F.ok scLeaf (fun vs H Q E h => ?_) (fun cdv A outer s H vs Q E hr h => ?_)
  · obtain ⟨c, rfl, q⟩ := h
    rfl
  · obtain ⟨c, rfl, q⟩ := h
    have nd := scLeaf.nd
    have hu := hu_of hr
    have hrMix : Room 1 _ := hr.mono (by first | decide | omega)
    refine ⟨_, (pss_cons (ps_set (i := 1) nd rfl (Or.inl rfl) (pe_call GMix hrMix rfl mMix kMix bMix .nil pass0 (pa_cons (pv 0) (pa_cons pe_int pa_nil))))
      (pss_cons (ps_if (pt_cmpR op_eq (pe_op op_mod (pe_call GMix hrMix rfl mMix kMix bMix .nil pass0 (pa_cons (pv 0) (pa_cons pe_int pa_nil))) pe_int) pe_int (nomark _)) (pss_one (ps_ret (pe_op op_sub (pe_op op_mod (pv 1) pe_int) pe_int))) pss_nil)
      (pss_cons (ps_if (pt_cmpR op_eq (pe_op op_mod (pe_call GMix hrMix rfl mMix kMix bMix .nil pass0 (pa_cons (pv 0) (pa_cons pe_int pa_nil))) pe_int) pe_int (nomark _)) (pss_one (ps_ret (pe_slice sl_str (pe_slice sl_str pe_str (po_some (pe_op op_mod (pv 1) pe_int)) po_none) po_none (po_some (pe_op op_mod (pe_op op_fdiv (pv 1) pe_int) pe_int))))) pss_nil)
      (pss_cons (ps_set (i := 2) nd rfl (Or.inl rfl) (pe_op op_add (pe_op op_mulB (pv 1) pe_int) (pe_call GMix hrMix rfl mMix kMix bMix .nil pass0 (pa_cons (pv 0) (pa_cons pe_int pa_nil)))))
      (pss_one (ps_ret (pe_op op_mulB (pe_op op_mulB (pe_op op_sub pe_int (pe_op op_mulB (pe_op op_mod (pe_call GMix hrMix rfl mMix kMix bMix .nil pass0 (pa_cons (pv 0) (pa_cons pe_int pa_nil))) pe_int) pe_int)) (pv 2)) (pe_ix (r := rIxL K) ix_list (pe_lst (pa_cons pe_int (pa_cons (pe_op op_pow pe_int pe_int) (pa_cons (pe_op op_pow pe_int pe_int) pa_nil)))) (pe_op op_mod (pe_op op_fdiv (pe_call GMix hrMix rfl mMix kMix bMix .nil pass0 (pa_cons (pv 0) (pa_cons pe_int pa_nil))) pe_int) pe_int) (fun _ _ => rfl))))))))), ?_⟩
    have leafI : ∀ (i : Int) H', i.natAbs < 2 ^ 400 → Same H H' → Q (.int i) H' := fun i H' b1 s1 => q _ _ (.inl ⟨i, rfl, b1⟩) s1
    have small : ∀ x : Int, -(2 ^ 399) < x → x < 2 ^ 399 → x.natAbs < 2 ^ 400 := fun x h1 h2 => by omega
    refine ⟨_, rfl, c, 4, rfl, by decide, fun n n0 n1 => ?_⟩
    refine ⟨_, rfl, c, 3, rfl, by decide, fun r3 p3 q3 => ⟨_, _, rfl, rfl, (by show (0 : Int) < _; decide), rfl, _, rfl, ?_⟩⟩
    refine ite2 (fun _ => ?_) (fun _ => ?_)
    · exact ⟨_, rfl, _, _, rfl, rfl, (by show (0 : Int) < _; decide), _, _, rfl, rfl, leafI _ _ (by have m7 := mod_b n (n := 7) (by decide); exact small _ (by show _ < n % 7 - 3; omega) (by show n % 7 - 3 < _; omega)) (Same.refl H)⟩
    refine ⟨_, rfl, c, 3, rfl, by decide, fun r4 p4 q4 => ⟨_, _, rfl, rfl, (by show (0 : Int) < _; decide), rfl, _, rfl, ?_⟩⟩
    refine ite2 (fun _ => ?_) (fun _ => ?_)
    · have m26 := mod26 n
      have m13 := mod_b (n / 26) (n := 13) (by decide)
      have l1 : (Txt.slice abc (some (n % 26)) none).length ≤ 26 := by
        have := Txt.slice_le abc (some (n % 26)) none
        rw [abc_len] at this
        exact this
      refine ⟨_, rfl, _, _, rfl, rfl, (by show (0 : Int) < _; decide), _, rfl, abc, rfl, by rw [abc_len]; decide, _, rfl, _, _, rfl, rfl, ⟨by decide, by decide⟩, _, _, rfl, rfl, (by show (0 : Int) < _; decide), _, rfl, _, rfl, Nat.le_of_lt (small1000 (Nat.le_trans l1 (by decide))), q _ _ (.inr ⟨_, rfl, ?_⟩) (Same.refl H)⟩
      obtain ⟨i, hi⟩ : ∃ i : Nat, n % 26 = (i : Int) := ⟨(n % 26).toNat, by omega⟩
      obtain ⟨j, hj⟩ : ∃ j : Nat, n / 26 % 13 = (j : Int) := ⟨(n / 26 % 13).toNat, by omega⟩
      have sg : sgn (Txt.slice (Txt.slice abc (some (n % 26)) none) none (some (n / 26 % 13))) = ((sgn abc).drop i).take j := by
        rw [sgn_slice, sgn_slice, hi, hj, cut_from, cut_to]
      have la : (sgn abc).all isL = true := by
        rw [List.all_eq_true]
        exact fun x hx => isL_of_mem hx
      unfold txtB
      rw [← sgn_length, sg, Bool.and_eq_true]
      refine ⟨decide_eq_true ?_, all_take (all_drop la i) j⟩
      rw [List.length_take]
      omega
    refine ⟨_, rfl, _, _, rfl, rfl, ⟨small _ (by omega) (by omega), by decide⟩, _, rfl, c, 5, rfl, by decide, fun r5 p5 q5 => ⟨_, _, rfl, rfl, ?_⟩⟩
    refine ⟨_, rfl, c, 6, rfl, by decide, fun r6 p6 q6 => ⟨_, _, rfl, rfl, (by show (0 : Int) < _; decide), ?_⟩⟩
    have m2 := mod_b r6 (n := 2) (by decide)
    obtain ⟨g, hg⟩ : ∃ g : Int, g = n * 1000000 + r5 := ⟨_, rfl⟩
    have gb : 0 ≤ g ∧ g < 2 ^ 100 := by omega
    obtain ⟨e, he⟩ : ∃ e : Int, e = 1 - r6 % 2 * 2 := ⟨_, rfl⟩
    have eb : e = 1 ∨ e = -1 := by omega
    have pb : -(2 ^ 100) < e * g ∧ e * g < 2 ^ 100 := by rcases eb with rfl | rfl <;> omega
    refine ⟨_, _, rfl, rfl, ⟨small _ (by omega) (by omega), by decide⟩, _, _, rfl, rfl, _, rfl, _, _, rfl, rfl, ?_, ?_⟩
    · rw [← he, ← hg]
      exact ⟨small _ (by omega) (by omega), small _ (by omega) (by omega)⟩
    rw [← he, ← hg]
    refine ⟨_, _, rfl, rfl, ⟨by decide, by decide, by decide⟩, _, _, rfl, rfl, ⟨by decide, by decide, by decide⟩, by decide, fun l hl => ?_⟩
    refine ⟨_, rfl, c, 6, rfl, by decide, fun r7 p7 q7 => ⟨_, _, rfl, rfl, ⟨by decide, by decide⟩, _, _, rfl, rfl, (by show (0 : Int) < _; decide), ?_⟩⟩
    have m3 := mod_b (r7 / 2) (n := 3) (by decide)
    obtain ⟨v, hv, mv⟩ := pick_mem (xs := [V.int 1, V.int (10 ^ 14), V.int (10 ^ 39)]) m3.1 m3.2
    have vb : ∃ j : Int, v = .int j ∧ j.natAbs < 2 ^ 200 := by
      simp only [List.mem_cons, List.not_mem_nil, or_false] at mv
      rcases mv with rfl | rfl | rfl
      · exact ⟨_, rfl, by decide⟩
      · exact ⟨_, rfl, by decide⟩
      · exact ⟨_, rfl, by decide⟩
    obtain ⟨j, rfl, jb2⟩ := vb
    have jb : j.natAbs < 2 ^ 400 := Nat.lt_of_lt_of_le jb2 (by decide)
    have xb : (e * g).natAbs < 2 ^ 100 := by omega
    have eb2 : (e * g * j).natAbs < 2 ^ 400 := by
      rw [Int.natAbs_mul]
      exact Nat.lt_of_lt_of_le (Nat.mul_lt_mul'' xb jb2) (by decide)
    exact ⟨l, _, _, _, rfl, rfl, SqL.of upd_same, hv, _, _, rfl, rfl, ⟨small _ (by omega) (by omega), jb⟩, leafI _ _ eb2 (Same.new hl)⟩
end
end K12

set_option Elab.async false
set_option linter.all false
set_option maxRecDepth 100000
set_option maxHeartbeats 40000000
namespace K12
open PySem L2
section
variable {P : Program} {w : World} {K : PySem.W.Frag} {mg : Str → Option Value} {base : Heap}
theorem scPart : FnScope ["_law_cell_here", "_law_deep", "_law_most", "_law_way"] ["_law_cell_here", "_law_deep", "_law_most"] (defScope sPart) := ⟨rfl, rfl, rfl, by decide +kernel, rfl, by decide +kernel, by decide +kernel⟩
theorem ok_Part {f : Addr} {fd : FuncData} (F : Fun K "_law_part" "_law_part" sPart f fd) (T : Txt mg) (DMix : Df P w K mg base "_law_mix" ["_law_cell_here", "_law_k"] 1 spMix) (DLeaf : Df P w K mg base "_law_leaf" ["_law_cell_here"] 2 spLeaf) : FnOk P w K mg base CX0 3 f fd ["_law_cell_here", "_law_deep", "_law_most"] spPart := by
  obtain ⟨fMix, dMix, kMix, bMix, mMix, GMix⟩ := DMix.ex
  obtain ⟨fLeaf, dLeaf, kLeaf, bLeaf, mLeaf, GLeaf⟩ := DLeaf.ex
  refine F.ok scPart (fun vs H Q E h => ?_) (fun cdv A outer s H vs Q E hr h => ?_)
  · obtain ⟨c, d, m, rfl, q⟩ := h
    rfl
  · obtain ⟨c, d, m, rfl, q⟩ := h
    have nd := scPart.nd
    have hu := hu_of hr
    have hrMix : Room 1 _ := hr.mono (by first | decide | omega)
    have hrLeaf : Room 2 _ := hr.mono (by first | decide | omega)
    refine ⟨_, (pss_cons (ps_set (i := 3) nd rfl (Or.inl rfl) (pe_op op_mod (pe_call GMix hrMix rfl mMix kMix bMix .nil pass0 (pa_cons (pv 0) (pa_cons pe_int pa_nil))) pe_int))
      (pss_cons (ps_if (PW.pt (pw_and (pt_cmpR op_eq (pv 3) pe_int (nomark _)) (pw_and1 (pt_cmpR op_lt (pv 1) (pv 2) (nomark _))))) (pss_one (ps_ret (pe_lst pa_nil))) pss_nil)
      (pss_cons (ps_if (PW.pt (pw_and (pt_cmpR op_eq (pv 3) pe_int (nomark _)) (pw_and1 (pt_cmpR op_lt (pv 1) (pv 2) (nomark _))))) (pss_one (ps_ret pe_dnewK)) pss_nil)
      (pss_one (ps_ret (pe_call GLeaf hrLeaf rfl mLeaf kLeaf bLeaf .nil pass0 (pa_cons (pv 0) pa_nil))))))), ?_⟩
    have row : ∀ p, H p = none → Q (.ref p) (upd H p (.lst [])) := fun p hp => q (.row p []) _ (Same.new hp) (by simp only [Dc.At, Dc.AtL, List.map_nil, and_true]; exact .inl upd_same) rfl (fun a ha o u e => by simp [Dc.addrs, Dc.addrsL] at ha; rw [ha, upd_same] at e; cases e) (fun a ha => by simp [Dc.addrs, Dc.addrsL] at ha; rw [ha]; exact hp)
    have tab : ∀ p, H p = none → Q (.ref p) (upd H p (.dK [])) := fun p hp => q (.tab p [] []) _ (Same.new hp) (by simp only [Dc.At, Dc.AtL, List.length_nil, List.nodup_nil, and_true, true_and]; exact .inl upd_same) ⟨rfl, rfl⟩ (fun a ha o u e => by simp [Dc.addrs, Dc.addrsL] at ha; rw [ha, upd_same] at e; cases e) (fun a ha => by simp [Dc.addrs, Dc.addrsL] at ha; rw [ha]; exact hp)
    have leaf : ∀ v H', LeafV v → Same H H' → Q v H' := fun v H' hv s1 => q (.leaf v) H' s1 hv.lf hv (fun a ha => by simp [Dc.addrs] at ha) (fun a ha => by simp [Dc.addrs] at ha)
    refine ⟨_, rfl, c, 0, rfl, by decide, fun r p1 p2 => ⟨_, _, rfl, rfl, (by show (0 : Int) < _; decide), ?_⟩⟩
    refine ⟨_, rfl, rfl, _, rfl, ?_⟩
    refine ite2 (fun _ => ⟨_, rfl, _, rfl, _, _, rfl, rfl, _, rfl, ?_⟩) (fun _ => ?_)
    · refine ite2 (fun _ => ⟨Nat.zero_le _, fun p hp => row p hp⟩) (fun _ => ?_)
      refine ⟨_, rfl, rfl, _, rfl, ?_⟩
      refine ite2 (fun _ => ⟨_, rfl, _, rfl, _, _, rfl, rfl, _, rfl, ?_⟩) (fun _ => ?_)
      · refine ite2 (fun _ => fun p hp => tab p hp) (fun _ => ?_)
        exact ⟨_, rfl, c, rfl, leaf⟩
      · exact iteF ⟨_, rfl, c, rfl, leaf⟩
    · refine iteF ?_
      refine ⟨_, rfl, rfl, _, rfl, ?_⟩
      refine ite2 (fun _ => ⟨_, rfl, _, rfl, _, _, rfl, rfl, _, rfl, ?_⟩) (fun _ => ?_)
      · refine ite2 (fun _ => fun p hp => tab p hp) (fun _ => ?_)
        exact ⟨_, rfl, c, rfl, leaf⟩
      · exact iteF ⟨_, rfl, c, rfl, leaf⟩
end
end K12

set_option Elab.async false
set_option linter.all false
set_option maxRecDepth 100000
set_option maxHeartbeats 40000000
namespace K12
open PySem L2
section
variable {P : Program} {w : World} {K : PySem.W.Frag} {mg : Str → Option Value} {base : Heap}
theorem scLaid : FnScope ["_law_holder", "_law_part_here", "_law_names_here", "_law_number", "_law_left"] ["_law_holder", "_law_part_here", "_law_names_here", "_law_number"] (defScope sLaid) := ⟨rfl, rfl, rfl, by decide +kernel, rfl, by decide +kernel, by decide +kernel⟩
theorem ok_Laid {f : Addr} {fd : FuncData} (F : Fun K "_law_laid" "_law_laid" sLaid f fd) (T : Txt mg) : FnOk P w K mg base CX0 1 f fd ["_law_holder", "_law_part_here", "_law_names_here", "_law_number"] (spLaidO K) := by
  refine F.ok scLaid (fun vs H Q E h => ?_) (fun cdv A outer s H vs Q E hr h => ?_)
  · obtain ⟨b, n, y, ys, c, rfl, hc, hn, ln, ny, hb, q, qf⟩ := h
    rfl
  · obtain ⟨b, n, y, ys, c, rfl, hc, hn, ln, ny, hb, q, qf⟩ := h
    have nd := scLaid.nd
    have hu := hu_of hr
    refine ⟨_, (pss_cons (ps_if (pt_val (pe_callB call_isiN rfl T.isinstance b_isinstance (pa_cons (pv 0) (pa_cons (pe_bltn (v := .ty "list") rfl T.list b_list rfl) pa_nil)))) (pss_cons (ps_expr (pe_bm PySem.F.plainAttrs_list PySem.F.slot_list_insert PySem.F.type_list_insert mt_insert (pv 0) (pa_cons (pe_op op_mod (pv 3) (pe_op op_add (pe_callB call_len_seq rfl T.len PySem.boot_len (pa_cons (pv 0) pa_nil)) pe_int)) (pa_cons (pv 1) pa_nil))))
      (pss_one (ps_ret pe_bl))) pss_nil)
      (pss_cons (ps_setComp (i := 4)  (fv := ["_law_holder"]) (fs := [0]) rfl (.of (by rfl)) nd rfl (Or.inl rfl) (pi_list (pv 2)) (fun C s0 H0 fp => pts_one (pt_cmp (pc_dnotin hu (pv 0) (pv 1)))) (fun C s0 H0 fp => (pv 0)))
      (pss_cons (ps_if (pt_cmpR (op_eqE (Room.units0 hr)) (pv 4) (pe_lst pa_nil) (nomark _)) (pss_one (ps_ret pe_bl)) pss_nil)
      (pss_cons (ps_dput hu (pv 0) (pe_ix (r := rIxL K) ix_list (pv 4) (pe_op op_mod (pv 3) (pe_callB call_len_seq rfl T.len PySem.boot_len (pa_cons (pv 4) pa_nil))) (fun _ _ => rfl)) (pv 1) rfl)
      (pss_one (ps_ret pe_bl)))))), ?_⟩
    rcases hb with ⟨vs, hb, hz⟩ | ⟨kv, hb, hz⟩
    · refine ⟨_, rfl, _, "list", "list", rfl, rfl, .lst (.inl hb), _, rfl, iteT ?_⟩
      have m := mod_b c (n := (vs.length : Int) + 1) (by omega)
      obtain ⟨i, hi⟩ : ∃ i : Nat, c % ((vs.length : Int) + 1) = (i : Int) := ⟨(c % ((vs.length : Int) + 1)).toNat, by omega⟩
      refine ⟨_, rfl, .inl ⟨rfl, _, SqL.of hb⟩, _, rfl, _, rfl, b, _, rfl, .inl (SqL.of hb), _, _, rfl, rfl, _, _, rfl, rfl, (by show (0 : Int) < (vs.length : Int) + 1; omega), _, rfl, b, vs, i, y, rfl, ?_, hb, by omega, small1000 hz, ?_⟩
      · show [V.int (c % ((vs.length : Int) + 1)), y] = _
        rw [hi]
      · exact q _ Chg.upd (.inl ⟨vs, i, hb, upd_same⟩)
    · refine ⟨_, rfl, _, "list", "dict", rfl, rfl, .dK (.inl hb), _, rfl, iteF ?_⟩
      have li : ∀ i, i < ys.length → (ys.map V.str)[i]? = some (.str (ys.getD i "")) := fun i hi => by
        rw [List.getElem?_map, List.getElem?_eq_getElem hi, List.getD_eq_getElem?_getD, List.getElem?_eq_getElem hi]
        rfl
      have nD : ∀ {D : Addr} {zs : List V}, H D = none → upd H D (.lst zs) b = some (.dK kv) := fun h => by rw [upd_ne (ne_of_none hb h)]; exact hb
      refine ⟨_, rfl, n, rfl, ⟨_, hn⟩, ?_⟩
      refine comp_pure (n := ys.length) (fun i => .str (ys.getD i "")) (fun i => .str (ys.getD i "")) (fun i => !(valV kv (Sum.inr (ys.getD i ""))).isSome) (Nat.le_of_lt (small1000 (Nat.le_trans ln (by decide))))
        (fun i D zs hi hD => ⟨_, _, (Same.new hD).seq hn, li i hi⟩) (fun i D zs v H' hi hD y => ?_) (fun D zs hD => ⟨_, (Same.new hD).seq hn, by rw [List.length_map]; exact Nat.le_refl _⟩) (fun i D zs R hi hD r => ?_) (fun i D zs R hi hD _ r => ⟨_, rfl, r⟩) (fun D hD => ?_)
      · obtain ⟨e, y⟩ := y
        have := y _ ((Same.new hD).seq hn)
        rw [li i hi] at this
        exact ⟨(Option.some.inj this).symm, e⟩
      · exact ⟨_, rfl, _, rfl, b, _, rfl, DGet.k (k := Sum.inr (ys.getD i "")) (nD hD), _, rfl, r⟩
      · obtain ⟨lf, hlf⟩ : ∃ lf : List Str, lf = ((List.range ys.length).filter fun i => !(valV kv (Sum.inr (ys.getD i ""))).isSome).map fun i => ys.getD i "" := ⟨_, rfl⟩
        have el : List.map (fun i => V.str (ys.getD i "")) (List.filter (fun i => !(valV kv (Sum.inr (ys.getD i ""))).isSome) (List.range ys.length)) = lf.map V.str := by
          rw [hlf, List.map_map]
          rfl
        have lm : ∀ x ∈ lf, (nameB x = true ∧ x ∈ ys) ∧ valV kv (Sum.inr x) = none := fun x hx => by
          rw [hlf] at hx
          obtain ⟨i, hi, rfl⟩ := List.mem_map.mp hx
          have hi := List.mem_filter.mp hi
          have h1 := List.mem_range.mp hi.1
          have my : ys.getD i "" ∈ ys := by
            rw [List.getD_eq_getElem?_getD, List.getElem?_eq_getElem h1]
            exact List.getElem_mem h1
          refine ⟨⟨ny _ my, my⟩, ?_⟩
          · have := hi.2
            simp only [Bool.not_eq_true', Option.isSome_eq_false_iff, Option.isNone_iff_eq_none] at this
            exact this
        rw [el]
        have h1 : upd H D (.lst (lf.map V.str)) D = some (.lst (lf.map V.str)) := upd_same
        refine ⟨_, rfl, Nat.zero_le _, fun p hp => ?_⟩
        have h2 : upd (upd H D (.lst (lf.map V.str))) p (.lst []) D = some (.lst (lf.map V.str)) := by rw [upd_ne (ne_of_none h1 hp)]; exact h1
        have s2 : Same H (upd (upd H D (.lst (lf.map V.str))) p (.lst [])) := (Same.new hD).trans (Same.new hp)
        refine ⟨D, p, _, rfl, rfl, SqL.of h2, SqL.of upd_same, _, rfl, ?_⟩
        cases lf with
        | nil => exact iteT (qf _ s2 ⟨kv, hb⟩)
        | cons x r =>
          refine iteF ?_
          have m := mod_b c (n := (((x :: r).map V.str).length : Int)) (by simp)
          obtain ⟨v, hv, mv⟩ := pick_mem m.1 m.2
          obtain ⟨z, hz2, rfl⟩ := List.mem_map.mp mv
          obtain ⟨nz, vz⟩ := lm z hz2
          have h3 := s2 _ _ hb
          refine ⟨_, rfl, _, rfl, _, rfl, _, rfl, _, rfl, D, _, rfl, .inl (SqL.of h2), _, _, rfl, rfl, (by show (0 : Int) < (((x :: r).map V.str).length : Int); simp), D, _, _, _, rfl, rfl, SqL.of h2, hv, b, _, rfl, DPut.k (k := Sum.inr z) h3 (small1000 hz), ?_⟩
          refine q _ (Chg.of s2 Chg.upd) (.inr ⟨kv, z, hb, valV_not vz, nz, ?_⟩)
          rw [upd_same, putK_new _ vz]
theorem okW_Laid {f : Addr} {fd : FuncData} (F : Fun K "_law_laid" "_law_laid" sLaid f fd) (T : Txt mg) : FnOk P w K mg base CX0 1 f fd ["_law_holder", "_law_part_here", "_law_names_here", "_law_number"] (spLaid K) := (ok_Laid F T).imp fun _ _ _ _ h => spLaid_of h
end
end K12

set_option Elab.async false
set_option linter.all false
set_option maxRecDepth 100000
set_option maxHeartbeats 40000000
namespace K12
open PySem L2
section
variable {P : Program} {w : World} {K : PySem.W.Frag} {mg : Str → Option Value} {base : Heap}
theorem scDoc : FnScope ["_law_script", "_law_start", "_law_names_here", "_law_first", "_law_most", "_law_doc_here", "_law_holders_here", "_law_many", "_law_k", "_law_cell_here", "_law_holder", "_law_deep", "_law_part_here"] ["_law_script", "_law_start", "_law_names_here"] (defScope sDoc) := ⟨rfl, rfl, rfl, by decide +kernel, rfl, by decide +kernel, by decide +kernel⟩
theorem ok_Doc {f : Addr} {fd : FuncData} (F : Fun K "_law_doc" "_law_doc" sDoc f fd) (T : Txt mg) (DCell : Df P w K mg base "_law_cell" ["_law_script", "_law_k"] 1 (spCell K)) (DMix : Df P w K mg base "_law_mix" ["_law_cell_here", "_law_k"] 1 spMix) (DPart : Df P w K mg base "_law_part" ["_law_cell_here", "_law_deep", "_law_most"] 3 spPart) (DLaid : Df P w K mg base "_law_laid" ["_law_holder", "_law_part_here", "_law_names_here", "_law_number"] 1 (spLaid K)) : FnOk P w K mg base CX0 4 f fd ["_law_script", "_law_start", "_law_names_here"] (spDoc K) := by
  obtain ⟨fCell, dCell, kCell, bCell, mCell, GCell⟩ := DCell.ex
  obtain ⟨fMix, dMix, kMix, bMix, mMix, GMix⟩ := DMix.ex
  obtain ⟨fPart, dPart, kPart, bPart, mPart, GPart⟩ := DPart.ex
  obtain ⟨fLaid, dLaid, kLaid, bLaid, mLaid, GLaid⟩ := DLaid.ex
  refine F.ok scDoc (fun vs H Q E h => ?_) (fun cdv A outer s H vs Q E hr h => ?_)
  · obtain ⟨a, n, ns, k, ys, rfl, hS, hlen, hk, hn, ln, ny, q⟩ := h
    rfl
  · obtain ⟨a, n, ns, k, ys, rfl, hS, hlen, hk, hn, ln, ny, q⟩ := h
    have nd := scDoc.nd
    have hu := hu_of hr
    have hrCell : Room 1 _ := hr.mono (by first | decide | omega)
    have hrMix : Room 1 _ := hr.mono (by first | decide | omega)
    have hrPart : Room 3 _ := hr.mono (by first | decide | omega)
    have hrLaid : Room 1 _ := hr.mono (by first | decide | omega)
    refine ⟨_, (pss_cons (ps_set (i := 3) nd rfl (Or.inl rfl) (pe_call GCell hrCell rfl mCell kCell bCell .nil pass0 (pa_cons (pv 0) (pa_cons (pv 1) pa_nil))))
      (pss_cons (ps_set (i := 4) nd rfl (Or.inl rfl) (pe_ix (r := rIxL K) ix_list (pe_lst (pa_cons pe_int (pa_cons pe_int (pa_cons pe_int (pa_cons pe_int pa_nil))))) (pe_op op_mod (pe_call GMix hrMix rfl mMix kMix bMix .nil pass0 (pa_cons (pv 3) (pa_cons pe_int pa_nil))) pe_int) (fun _ _ => rfl)))
      (pss_cons (ps_set (i := 5) nd rfl (Or.inl rfl) (pe_call GPart hrPart rfl mPart kPart bPart .nil pass0 (pa_cons (pv 3) (pa_cons pe_int (pa_cons (pv 4) pa_nil)))))
      (pss_cons (ps_set (i := 6) nd rfl (Or.inl rfl) (pe_lst pa_nil))
      (pss_cons (ps_if (pt_val (pe_callB call_isiLD rfl T.isinstance b_isinstance (pa_cons (pv 5) (pa_cons (pe_tup (pa_cons (pe_bltn (v := .ty "list") rfl T.list b_list rfl) (pa_cons (pe_bltn (v := .ty "dict") rfl T.dict b_dict rfl) pa_nil))) pa_nil)))) (pss_one (ps_expr (pe_bm PySem.F.plainAttrs_list PySem.F.slot_list_append PySem.F.type_list_append mt_append (pv 6) (pa_cons (pe_tup (pa_cons (pv 5) (pa_cons pe_int pa_nil))) pa_nil)))) pss_nil)
      (pss_cons (ps_set (i := 7) nd rfl (Or.inl rfl) pe_int)
      (pss_cons (ps_for PassesOwn.never rfl (pi_range2 rfl T.range (pa_cons pe_int (pa_cons (pe_callB (call_max2 rfl) rfl T.max b_max (pa_cons pe_int (pa_cons (pe_callB (call_min2 rfl) rfl T.min b_min (pa_cons pe_int (pa_cons (pe_op op_sub (pe_callB call_len_seq rfl T.len PySem.boot_len (pa_cons (pv 0) pa_nil)) (pv 1)) pa_nil))) pa_nil))) pa_nil))) (pg_name (i := 8) nd rfl (Or.inl rfl)) (pss_cons (ps_set (i := 9) nd rfl (Or.inl rfl) (pe_call GCell hrCell rfl mCell kCell bCell .nil pass0 (pa_cons (pv 0) (pa_cons (pe_op op_add (pv 1) (pv 8)) pa_nil))))
      (pss_one (ps_if (pt_cmpR (op_neE (Room.units0 hr)) (pv 6) (pe_lst pa_nil) (nomark _)) (pss_cons (ps_asg (pe_ix (r := rIxL K) ix_list (pv 6) (pe_op op_sub (pe_op op_sub (pe_callB call_len_seq rfl T.len PySem.boot_len (pa_cons (pv 6) pa_nil)) pe_int) (pe_op op_mod (pe_op op_mod (pe_call GMix hrMix rfl mMix kMix bMix .nil pass0 (pa_cons (pv 9) (pa_cons pe_int pa_nil))) (pe_callB call_len_seq rfl T.len PySem.boot_len (pa_cons (pv 6) pa_nil))) (pe_ix (r := rIxL K) ix_list (pe_lst (pa_cons pe_int (pa_cons pe_int pa_nil))) (pe_op op_fdiv (pv 4) pe_int) (fun _ _ => rfl)))) (fun _ _ => rfl)) (pg_tup rfl (pgs_cons (pg_name (i := 10) nd rfl (Or.inl rfl)) (pgs_cons (pg_name (i := 11) nd rfl (Or.inl rfl)) pgs_nil))))
      (pss_cons (ps_set (i := 12) nd rfl (Or.inl rfl) (pe_call GPart hrPart rfl mPart kPart bPart .nil pass0 (pa_cons (pv 9) (pa_cons (pv 11) (pa_cons (pv 4) pa_nil)))))
      (pss_one (ps_if (pt_val (pe_call GLaid hrLaid rfl mLaid kLaid bLaid .nil pass0 (pa_cons (pv 10) (pa_cons (pv 12) (pa_cons (pv 2) (pa_cons (pe_call GMix hrMix rfl mMix kMix bMix .nil pass0 (pa_cons (pv 9) (pa_cons pe_int pa_nil))) pa_nil)))))) (pss_cons (ps_set (i := 7) nd rfl (Or.inl rfl) (pe_op op_add (pv 7) pe_int))
      (pss_one (ps_if (pt_val (pe_callB call_isiLD rfl T.isinstance b_isinstance (pa_cons (pv 12) (pa_cons (pe_tup (pa_cons (pe_bltn (v := .ty "list") rfl T.list b_list rfl) (pa_cons (pe_bltn (v := .ty "dict") rfl T.dict b_dict rfl) pa_nil))) pa_nil)))) (pss_one (ps_expr (pe_bm PySem.F.plainAttrs_list PySem.F.slot_list_append PySem.F.type_list_append mt_append (pv 6) (pa_cons (pe_tup (pa_cons (pv 12) (pa_cons (pe_op op_add (pv 11) pe_int) pa_nil))) pa_nil)))) pss_nil))) pss_nil)))) pss_nil))))
      (pss_one (ps_ret (pe_tup (pa_cons (pv 5) (pa_cons (pv 7) pa_nil)))))))))))), ?_⟩
    refine ⟨_, rfl, _, rfl, a, ns, k, rfl, hS, fun c0 pc0 => ?_⟩
    refine ⟨by decide, fun l hl => ⟨_, rfl, c0, 7, rfl, by decide, fun r0 p0 q0 => ⟨_, _, rfl, rfl, (by show (0 : Int) < _; decide), ?_⟩⟩⟩
    have m4 := mod_b r0 (n := 4) (by decide)
    obtain ⟨v, hv, mv⟩ := pick_mem (xs := [V.int 4, V.int 4, V.int 4, V.int 17]) m4.1 m4.2
    have vb : ∃ m : Int, v = .int m ∧ (m / 16 = 0 ∨ m / 16 = 1) := by
      simp only [List.mem_cons, List.not_mem_nil, or_false] at mv
      rcases mv with rfl | rfl | rfl | rfl
      · exact ⟨_, rfl, by decide⟩
      · exact ⟨_, rfl, by decide⟩
      · exact ⟨_, rfl, by decide⟩
      · exact ⟨_, rfl, by decide⟩
    obtain ⟨m, rfl, hm⟩ := vb
    refine ⟨l, _, _, _, rfl, rfl, SqL.of upd_same, hv, ?_⟩
    have s1 : Same H (upd H l (.lst [.int 4, .int 4, .int 4, .int 17])) := Same.new hl
    refine ⟨_, rfl, _, rfl, c0, 0, m, rfl, fun p H2 s2 at2 bare2 own2 new2 => ?_⟩
    refine ⟨Nat.zero_le _, fun L hL => ?_⟩
    have s3 : Same H2 (upd H2 L (.lst [])) := Same.new hL
    have DI0 : DocInv H (upd H2 L (.lst [])) p L [] := by
      refine ⟨⟨(s1.trans s2).trans s3, Dc.at_same s3 at2, bare2.ok, bare2.nodup, fun b hb => frz_up (Dc.there at2 hb) (own2 b hb) (s3 b), fun b hb => s1.free (new2 b hb)⟩, (s1.trans s2).free hL, upd_same, fun h => ?_, fun t ht => nomatch ht⟩
      exact Dc.there at2 h hL
    dsimp only [gName]
    refine seq_if (t := tIfS _ _ _) (fun H5 => ∃ ts, DocInv H H5 p L ts ∧ ts.length ≤ 1) (fun H5 ⟨ts, DI, lt⟩ => ?_) (fun key => ?_)
    rotate_left
    · refine ⟨_, rfl, by decide, fun t ht => ⟨p.val, t, p.tyS, rfl, upd_same, Dc.tyN (Dc.at_same (Same.new ht) DI0.made.at_), _, rfl, ?_⟩⟩
      have DI1 := DI0.up (Same.new (o := .tup [.ty "list", .ty "dict"]) ht)
      have app : ∀ b, p.val = .ref b → b ∈ p.addrs → ∀ t2, (upd (upd H2 L (.lst [])) t (.tup [.ty "list", .ty "dict"])) t2 = none → ∃ ts, DocInv H (upd (upd (upd (upd H2 L (.lst [])) t (.tup [.ty "list", .ty "dict"])) t2 (.tup [p.val, .int 1])) L (.lst ([] ++ [.ref t2]))) p L ts ∧ ts.length ≤ 1 := fun b hb mb t2 ht2 => by
        have DI2 := DI1.up (Same.new (o := .tup [p.val, .int 1]) ht2)
        exact ⟨[t2], DI2.push (b := b) (k := 1) (by rw [upd_same, hb]) mb, Nat.le_refl _⟩
      cases p with
      | leaf v => exact iteBF (by cases v <;> rfl) (key _ ⟨[], DI1, Nat.zero_le _⟩)
      | row b xs =>
        refine iteBT rfl ⟨_, rfl, .inl ⟨rfl, _, SqL.of DI1.eL⟩, _, rfl, two_line, fun t2 ht2 => ⟨L, _, _, rfl, rfl, (DI1.up (Same.new ht2)).eL, by decide, key _ (app b rfl (by simp [Dc.addrs]) t2 ht2)⟩⟩
      | tab b ks xs =>
        refine iteBT rfl ⟨_, rfl, .inl ⟨rfl, _, SqL.of DI1.eL⟩, _, rfl, two_line, fun t2 ht2 => ⟨L, _, _, rfl, rfl, (DI1.up (Same.new ht2)).eL, by decide, key _ (app b rfl (by simp [Dc.addrs]) t2 ht2)⟩⟩
    have hS5 := DI.made.same.seq hS
    refine ⟨_, rfl, a, _, rfl, .inl hS5, _, rfl, _, _, rfl, rfl, _, _, rfl, _, _, rfl, _, _, rfl, ?_⟩
    have bound : ∀ x : Int, 1 ≤ (if (if x < 40 then x else 40) > 3 then (if x < 40 then x else 40) else 3) ∧ (if (if x < 40 then x else 40) > 3 then (if x < 40 then x else 40) else 3) ≤ 40 := fun x => by
      split <;> split <;> constructor <;> omega
    obtain ⟨J, hJ⟩ : ∃ J : Int, J = (if (if (((ns.map V.int).length : Nat) : Int) - (k : Int) < 40 then (((ns.map V.int).length : Nat) : Int) - (k : Int) else 40) > 3 then (if (((ns.map V.int).length : Nat) : Int) - (k : Int) < 40 then (((ns.map V.int).length : Nat) : Int) - (k : Int) else 40) else 3) := ⟨_, rfl⟩
    have bJ : 1 ≤ J ∧ J ≤ 40 := by rw [hJ]; exact bound _
    rw [← hJ]
    refine ⟨⟨by decide, by decide, by omega, by omega⟩, for_range (lo := 1) (fun i σ Hi => Ex7_6 (fun (d : Dc) (ts : List Addr) (o8 o9 o10 o11 o12 : Option V) => σ = [some (.ref a), some (.int (k : Int)), some (.ref n), some (.int c0), some (.int m), some p.val, some (.ref L), some (.int (d.size : Int)), o8, o9, o10, o11, o12]) (fun (d : Dc) (ts : List Addr) (o8 o9 o10 o11 o12 : Option V) => d.val = p.val) (fun (d : Dc) (ts : List Addr) (o8 o9 o10 o11 o12 : Option V) => DocInv H Hi d L ts) (fun (d : Dc) (ts : List Addr) (o8 o9 o10 o11 o12 : Option V) => d.size ≤ i + 1) (fun (d : Dc) (ts : List Addr) (o8 o9 o10 o11 o12 : Option V) => ts.length ≤ i + 1) (fun (d : Dc) (ts : List Addr) (o8 o9 o10 o11 o12 : Option V) => (ys ≠ [] → d.named ys)))
      ⟨p, ts, none, none, none, none, none, by rw [bare2.size]; rfl, rfl, DI, by rw [bare2.size]; omega, by omega, fun _ => bare2.named⟩ ?_ ?_⟩
    · rintro i σ Hi hi ⟨d, ts, o8, o9, o10, o11, o12, rfl, dv, DI, ds, lt, nmd⟩
      refine ⟨_, rfl, _, rfl, _, rfl, _, _, rfl, rfl, a, ns, k + (1 + i), (by show [V.ref a, V.int ((k : Int) + (1 + (i : Int)))] = _; simp), DI.made.same.seq hS, fun c pc => ?_⟩
      refine ⟨_, rfl, Nat.zero_le _, fun z hz => ?_⟩
      have DI1 := DI.up (Same.new (o := .lst []) hz)
      refine ⟨L, z, _, rfl, rfl, SqL.of DI1.eL, SqL.of upd_same, _, rfl, ?_⟩
      cases ts with
      | nil => exact iteF ⟨d, [], _, _, _, _, _, rfl, dv, DI1, by omega, by simp, nmd⟩
      | cons t0 tr =>
        refine iteT ?_
        obtain ⟨ts, hts⟩ : ∃ ts, ts = t0 :: tr := ⟨_, rfl⟩
        rw [← hts] at DI1 lt
        have lp : 0 < ts.length := by rw [hts]; simp
        have ll : (ts.map V.ref).length = ts.length := List.length_map ..
        refine ⟨_, rfl, _, rfl, L, _, rfl, .inl (SqL.of DI1.eL), _, _, rfl, rfl, _, rfl, c, 1, rfl, by decide, fun r1 p1 q1 => ⟨_, rfl, L, _, rfl, .inl (SqL.of DI1.eL), _, _, rfl, rfl, (by show (0 : Int) < ((ts.map V.ref).length : Int); rw [ll]; omega), ?_⟩⟩
        refine ⟨by decide, fun l2 hl2 => ⟨_, rfl, _, _, rfl, rfl, ⟨by decide, by decide⟩, ?_⟩⟩
        obtain ⟨v2, hv2, mv2⟩ := pick_mem (xs := [V.int 40, V.int 2]) (i := m / 16) (by omega) (by show m / 16 < (2 : Int); omega)
        have vb2 : ∃ j : Int, v2 = .int j ∧ 0 < j := by
          simp only [List.mem_cons, List.not_mem_nil, or_false] at mv2
          rcases mv2 with rfl | rfl
          · exact ⟨_, rfl, by decide⟩
          · exact ⟨_, rfl, by decide⟩
        obtain ⟨j, rfl, hj⟩ := vb2
        have DI2 := DI1.up (Same.new (o := .lst [.int 40, .int 2]) hl2)
        refine ⟨l2, _, _, _, rfl, rfl, SqL.of upd_same, hv2, _, _, rfl, rfl, hj, _, _, rfl, rfl, ?_⟩
        have b1 := mod_b r1 (n := ((ts.map V.ref).length : Int)) (by rw [ll]; omega)
        obtain ⟨x, hx⟩ : ∃ x : Int, x = r1 % ((ts.map V.ref).length : Int) := ⟨_, rfl⟩
        rw [← hx] at b1 ⊢
        have b2 := mod_b x hj
        have b3 : x % j ≤ x := by
          by_cases h : x < j
          · rw [Int.emod_eq_of_lt b1.1 h]; exact Int.le_refl _
          · omega
        obtain ⟨v3, hv3, mv3⟩ := pick_mem (xs := ts.map V.ref) (i := ((ts.map V.ref).length : Int) - 1 - x % j) (by omega) (by omega)
        obtain ⟨t, ht, rfl⟩ := List.mem_map.mp mv3
        obtain ⟨b, kk, et, hb⟩ := DI2.hold t ht
        refine ⟨L, _, _, _, rfl, rfl, SqL.of DI2.eL, hv3, t, _, rfl, SqT.of et, rfl, _, _, rfl, _, _, rfl, rfl, ?_⟩
        refine ⟨_, rfl, _, rfl, _, rfl, c, kk, m, rfl, fun p2 H4 s4 at4 bare4 own4 new4 => ?_⟩
        have DI4 := DI2.up s4
        have hn4 := DI4.made.same _ _ hn
        have hb4 : (∃ vs, H4 b = some (.lst vs) ∧ vs.length ≤ 1000) ∨ ∃ kv, H4 b = some (.dK kv) ∧ kv.length ≤ 1000 := by
          rcases Dc.holder_at d DI4.made.at_ hb with ⟨vs, e, l⟩ | ⟨ks, kv, e, _, l⟩
          · exact .inl ⟨vs, e.exact (DI4.made.own b hb), by omega⟩
          · exact .inr ⟨kv, e.exact (DI4.made.own b hb), by omega⟩
        refine ⟨_, rfl, _, rfl, _, rfl, _, rfl, c, 2, rfl, by decide, fun r2 p2' q2 => ?_⟩
        refine ⟨b, n, p2.val, ys, r2, rfl, p2', SqL.of hn4, ln, ny, hb4, fun H5 chg la => ⟨_, rfl, iteT ?_⟩, fun H5 s5 => ⟨_, rfl, iteF ⟨d, ts, _, _, _, _, _, rfl, dv, DI4.up s5, by omega, by omega, nmd⟩⟩⟩
        obtain ⟨d', e1, e2, DI5, in5, at5, nm5⟩ := DI2.laid s4 at4 bare4 own4 new4 hb chg la
        have nmd' : ys ≠ [] → d'.named ys := fun h => nm5 (by obtain ⟨y, r, e⟩ := List.exists_cons_of_ne_nil h; exact ⟨y, by rw [e]; exact List.mem_cons_self, ny y (by rw [e]; exact List.mem_cons_self)⟩) (nmd h)
        refine ⟨_, rfl, _, _, rfl, rfl, ?_⟩
        have esz : (d.size : Int) + 1 = (d'.size : Int) := by rw [e2]; simp
        refine ⟨_, rfl, by decide, fun t6 ht6 => ⟨p2.val, t6, p2.tyS, rfl, upd_same, Dc.tyN (Dc.at_same (Same.new ht6) at5), _, rfl, ?_⟩⟩
        have DI6 := DI5.up (Same.new (o := .tup [.ty "list", .ty "dict"]) ht6)
        have lz : (ts.map V.ref).length < sizeLine := small1000 (by rw [ll]; omega)
        have app : ∀ b7, p2.val = .ref b7 → b7 ∈ p2.addrs → ∀ t7, (upd H5 t6 (.tup [.ty "list", .ty "dict"])) t7 = none → DocInv H (upd (upd (upd H5 t6 (.tup [.ty "list", .ty "dict"])) t7 (.tup [p2.val, .int (kk + 1)])) L (.lst (ts.map V.ref ++ [.ref t7]))) d' L (ts ++ [t7]) := fun b7 hb7 mb7 t7 ht7 => by
          have DI7 := DI6.up (Same.new (o := .tup [p2.val, .int (kk + 1)]) ht7)
          exact DI7.push (b := b7) (k := kk + 1) (by rw [upd_same, hb7]) (in5 b7 mb7)
        cases p2 with
        | leaf v => exact iteBF (by cases v <;> rfl) ⟨d', ts, _, _, _, _, _, (by rw [← esz]; rfl), by rw [e1, dv], DI6, by omega, by omega, nmd'⟩
        | row b7 xs =>
          exact iteBT rfl ⟨_, rfl, .inl ⟨rfl, _, SqL.of DI6.eL⟩, _, rfl, _, rfl, _, _, rfl, rfl, two_line, fun t7 ht7 => ⟨L, _, _, rfl, rfl, (DI6.up (Same.new ht7)).eL, lz, d', ts ++ [t7], _, _, _, _, _, (by rw [← esz]; rfl), by rw [e1, dv], app b7 rfl (by simp [Dc.addrs]) t7 ht7, by omega, by simp; omega, nmd'⟩⟩
        | tab b7 ks xs =>
          exact iteBT rfl ⟨_, rfl, .inl ⟨rfl, _, SqL.of DI6.eL⟩, _, rfl, _, rfl, _, _, rfl, rfl, two_line, fun t7 ht7 => ⟨L, _, _, rfl, rfl, (DI6.up (Same.new ht7)).eL, lz, d', ts ++ [t7], _, _, _, _, _, (by rw [← esz]; rfl), by rw [e1, dv], app b7 rfl (by simp [Dc.addrs]) t7 ht7, by omega, by simp; omega, nmd'⟩⟩
    · rintro σ Hi ⟨d, ts, o8, o9, o10, o11, o12, rfl, dv, DI, ds, lt, nmd⟩
      refine ⟨_, rfl, _, rfl, two_line, fun t ht => ?_⟩
      refine q t d _ (DI.made.up (Same.new ht)) (by rw [upd_same, dv]) (by omega) nmd
end
end K12

set_option Elab.async false
set_option linter.all false
set_option maxRecDepth 100000
set_option maxHeartbeats 40000000
namespace K12
open PySem L2
section
variable {P : Program} {w : World} {K : PySem.W.Frag} {mg : Str → Option Value} {base : Heap}
theorem scCopy : FnScope ["_law_doc_here"] ["_law_doc_here"] (defScope sCopy) := ⟨rfl, rfl, rfl, by decide +kernel, rfl, by decide +kernel, by decide +kernel⟩
theorem ok_Copy {n : Nat} {f : Addr} {fd : FuncData} (F : Fun K "_law_copy" "_law_copy" sCopy f fd) (T : Txt mg) (DCopy : Df P w K mg base "_law_copy" ["_law_doc_here"] n (spCopy n)) : FnOk P w K mg base CX0 (n + 1) f fd ["_law_doc_here"] (spCopy (n + 1)) := by
  obtain ⟨fCopy, dCopy, kCopy, bCopy, mCopy, GCopy⟩ := DCopy.ex
  refine F.ok scCopy (fun vs H Q E h => ?_) (fun cdv A outer s H vs Q E hr h => ?_)
  · obtain ⟨d, rfl, hat, hdp, hsz, q⟩ := h
    rfl
  · obtain ⟨d, rfl, hat, hdp, hsz, q⟩ := h
    have nd := scCopy.nd
    have hu := hu_of hr
    have hrCopy : Room n _ := hr.mono (by first | decide | omega)
    refine ⟨_, (pss_cons (ps_if (pt_val (pe_callB call_isiN rfl T.isinstance b_isinstance (pa_cons (pv 0) (pa_cons (pe_bltn (v := .ty "list") rfl T.list b_list rfl) pa_nil)))) (pss_one (ps_ret (pe_comp (fv := []) (fs := []) rfl (.of (by rfl)) (pi_list (pv 0)) (fun _ _ _ _ => pts_nil) (fun C s0 H0 fp => (pe_call GCopy hrCopy rfl mCopy kCopy bCopy .nil pass0 (pa_cons (pv 0) pa_nil)))))) pss_nil)
      (pss_cons (ps_if (pt_val (pe_callB call_isiN rfl T.isinstance b_isinstance (pa_cons (pv 0) (pa_cons (pe_bltn (v := .ty "dict") rfl T.dict b_dict rfl) pa_nil)))) (pss_one (ps_ret (pe_callTy (call_dict_pairs rfl) rfl T.dict b_dict (pa_cons (pe_walk (pe_comp (fv := ["_law_doc_here"]) (fs := [0]) rfl (.of (by rfl)) (pi_dict (pv 0)) (fun _ _ _ _ => pts_nil) (fun C s0 H0 fp => (pe_tup (pa_cons (pv 0) (pa_cons (pe_call GCopy hrCopy rfl mCopy kCopy bCopy .nil pass0 (pa_cons (pe_dget hu (pv 1) (pv 0) (fun _ _ => rfl)) pa_nil)) pa_nil)))))) pa_nil)))) pss_nil)
      (pss_one (ps_ret (pv 0))))), ?_⟩
    cases d with
    | leaf v =>
      refine ⟨_, rfl, _, "list", Dc.tyS (.leaf v), rfl, rfl, Dc.tyN hat, _, rfl, iteBF (by cases v <;> rfl) ?_⟩
      refine ⟨_, rfl, _, "dict", Dc.tyS (.leaf v), rfl, rfl, Dc.tyN hat, _, rfl, iteBF (by cases v <;> rfl) ?_⟩
      exact ⟨_, rfl, q (.leaf v) H ⟨Same.refl H, hat, .nil, fun a h => (nomatch h), fun a h => (nomatch h)⟩ (Dc.like_refl _)⟩
    | row a xs =>
      refine ⟨_, rfl, _, "list", _, rfl, rfl, Dc.tyN hat, _, rfl, iteBT rfl ?_⟩
      simp only [Dc.At] at hat
      simp only [Dc.size] at hsz
      simp only [Dc.deep] at hdp
      have lx := Dc.lenL xs
      refine ⟨_, rfl, a, rfl, ⟨_, .inl hat.1⟩, ?_⟩
      refine comp_by xs.length (fun i => (xs.map Dc.val).getD i .non) (fun D i H2 => ∃ es, FreshL H H2 es ∧ D ∉ Dc.addrsL es ∧ H2 D = some (.lst (es.map Dc.val)) ∧ es.length = i ∧ Dc.likeL (xs.take i) es)
        (fun D hD => ⟨[], .nil (Same.new hD), (fun h => nomatch h), upd_same, rfl, by simp [Dc.likeL]⟩) (fun D i H2 hi ⟨es, F, _⟩ => ⟨_, _, .inl (hat.1.up (F.same _)), List.getElem?_eq_getElem (by rw [List.length_map]; exact hi)⟩)
        (fun D i H2 v H' hi ⟨es, F, _⟩ y => ?_) (fun D H2 ⟨es, F, _⟩ => ⟨_, .inl (hat.1.up (F.same _)), by rw [List.length_map]; exact Nat.le_refl _⟩) (fun D i H2 hD hi ⟨es, F, nD, eD, le, lk⟩ => ?_) (fun D H2 hD ⟨es, F, nD, eD, le, lk⟩ => ?_)
      · obtain ⟨e, y⟩ := y
        refine ⟨?_, e⟩
        have := y _ (.inl (hat.1.up (F.same _)))
        rw [List.getD_eq_getElem?_getD, this]
        rfl
      · obtain ⟨x, hx⟩ : ∃ x, xs[i]? = some x := ⟨_, List.getElem?_eq_getElem hi⟩
        have hm := List.mem_of_getElem? hx
        have dx := Dc.deepL_mem hm
        have sx := Dc.sizeL_mem hm
        have ev : (xs.map Dc.val).getD i .non = x.val := by rw [List.getD_eq_getElem?_getD, List.getElem?_map, hx]; rfl
        rw [ev]
        refine ⟨_, rfl, x, rfl, Dc.at_same F.same (Dc.AtL_mem hat.2 x hm), by omega, by omega, fun d' H3 f lk' => ?_⟩
        have F3 := F.snoc f
        have eD3 := f.same _ _ eD
        have nD3 : D ∉ Dc.addrsL (es ++ [d']) := by
          rw [Dc.addrsL_append]
          simp only [Dc.addrsL, List.append_nil, List.mem_append, not_or]
          exact ⟨nD, fun z => by have := f.new D z; rw [eD] at this; cases this⟩
        refine ⟨_, eD3, small1000 (by rw [List.length_map]; omega), es ++ [d'], F3.frame (F3.same.put hD) (fun b hb o e => ?_), nD3, ?_, by simp [le], ?_⟩
        · rw [upd_ne (fun z => nD3 (by rw [← z]; exact hb))]
          exact e
        · rw [upd_same, List.map_append]; rfl
        · rw [List.take_add_one, hx]
          exact Dc.likeL_append lk (by simp [Dc.likeL, lk'])
      · rw [List.take_length] at lk
        exact q (.row D es) H2 (F.row hD nD eD) (by simp only [Dc.like]; exact lk)
    | tab a ks xs =>
      refine ⟨_, rfl, _, "list", _, rfl, rfl, Dc.tyN hat, _, rfl, iteBF rfl ?_⟩
      refine ⟨_, rfl, _, "dict", _, rfl, rfl, Dc.tyN hat, _, rfl, iteBT rfl ?_⟩
      simp only [Dc.At] at hat
      simp only [Dc.size] at hsz
      simp only [Dc.deep] at hdp
      have lx := Dc.lenL xs
      have kl := Dc.kvs_len hat.2.1
      refine ⟨a, _, hat.1, fun o Hf F => ⟨_, rfl, a, o, _, rfl, F.at_, ?_⟩⟩
      refine comp_by xs.length (fun i => .str (ks.getD i "")) (fun D i H2 => ∃ (es : List Dc) (ts : List Addr), FreshL Hf H2 es ∧ D ∉ Dc.addrsL es ∧ H2 D = some (.lst (ts.map V.ref)) ∧ ts.length = i ∧ es.length = i ∧ Dc.likeL (xs.take i) es ∧
          ∀ (j : Nat) e, es[j]? = some e → ∃ t, ts[j]? = some t ∧ H2 t = some (.tup [.str (ks.getD j ""), e.val]) ∧ Hf t = none)
        (fun D hD => ⟨[], [], .nil (Same.new hD), (fun h => nomatch h), upd_same, rfl, rfl, by simp [Dc.likeL], fun j e h => by simp at h⟩) (fun D i H2 hi ⟨es, ts, F2, _⟩ => ⟨F2.same _ _ F.at_, by rw [kl]; exact hi⟩)
        (fun D i H2 v H' hi ⟨es, ts, F2, _⟩ y => ?_) (fun D H2 ⟨es, ts, F2, _⟩ => ⟨F2.same _ _ F.at_, kl.symm⟩) (fun D i H2 hD hi ⟨es, ts, F2, nD, eD, lt, le, lk, tp⟩ => ?_) (fun D H2 hD ⟨es, ts, F2, nD, eD, lt, le, lk, tp⟩ => ?_)
      · obtain ⟨e, k, v', e1, e2⟩ := y
        obtain ⟨nm, x, h1, h2, h3, h4, _⟩ := Dc.kvs_at hat.2.1 hat.2.2.1 e1
        refine ⟨?_, e⟩
        rw [e2, h3, List.getD_eq_getElem?_getD, h1]
        rfl
      · obtain ⟨kv, hkv⟩ : ∃ kv, (Dc.kvs ks xs)[i]? = some kv := ⟨_, List.getElem?_eq_getElem (by rw [kl]; exact hi)⟩
        obtain ⟨nm, x, h1, h2, h3, h4, h5, h6⟩ := Dc.kvs_at hat.2.1 hat.2.2.1 (k := kv.1) (v := kv.2) hkv
        have hm := List.mem_of_getElem? h2
        have dx := Dc.deepL_mem hm
        have sx := Dc.sizeL_mem hm
        have en : ks.getD i "" = nm := by rw [List.getD_eq_getElem?_getD, h1]; rfl
        rw [en]
        have rdp : SameR H H2 := F.rd.trans F2.same.r
        refine ⟨_, rfl, _, rfl, _, rfl, a, x.val, rfl, (by rw [← h6]; exact .inl ⟨_, Sum.inr nm, rdp a _ hat.1, rfl, rfl⟩), x, rfl, Dc.at_sameR rdp (Dc.AtL_mem hat.2.2.2 x hm), by omega, by omega, fun d' H3 f lk' => ⟨two_line, fun t ht => ?_⟩⟩
        have F3 := F2.snoc f
        have F4 := F3.up (Same.new (o := .tup [.str nm, d'.val]) ht)
        have eD4 := (Same.new (o := .tup [.str nm, d'.val]) ht) _ _ (f.same _ _ eD)
        have nD3 : D ∉ Dc.addrsL (es ++ [d']) := by
          rw [Dc.addrsL_append]
          simp only [Dc.addrsL, List.append_nil, List.mem_append, not_or]
          exact ⟨nD, fun z => by have := f.new D z; rw [eD] at this; cases this⟩
        have neD : ∀ {t' : Addr} {ys : List V}, upd H3 t (.tup [.str nm, d'.val]) t' = some (.tup ys) → t' ≠ D := fun h => ne_of h eD4 (by intro z; cases z)
        refine ⟨_, eD4, small1000 (by rw [List.length_map]; omega), es ++ [d'], ts ++ [t], F4.frame (F4.same.put hD) (fun b hb o e => ?_), nD3, by rw [upd_same, List.map_append]; rfl, by simp [lt], by simp [le], ?_, fun j e hj => ?_⟩
        · rw [upd_ne (fun z => nD3 (by rw [← z]; exact hb))]
          exact e
        · rw [List.take_add_one, h2]
          exact Dc.likeL_append lk (by simp [Dc.likeL, lk'])
        · by_cases hji : j < es.length
          · rw [List.getElem?_append_left hji] at hj
            obtain ⟨t', g1, g2, g3⟩ := tp j e hj
            have g2' := (Same.new (o := .tup [.str nm, d'.val]) ht) _ _ (f.same _ _ g2)
            exact ⟨t', by rw [List.getElem?_append_left (by omega)]; exact g1, by rw [upd_ne (neD g2')]; exact g2', g3⟩
          · have hl := (List.getElem?_eq_some_iff.mp hj).1
            rw [List.length_append, List.length_singleton] at hl
            have ej : j = i := by omega
            subst ej
            rw [List.getElem?_append_right (by omega), le, Nat.sub_self] at hj
            have e1 : d' = e := by simpa using hj
            subst e1
            refine ⟨t, by rw [List.getElem?_append_right (by omega), lt, Nat.sub_self]; rfl, ?_, F3.same.free ht⟩
            rw [upd_ne (neD (ys := [.str nm, d'.val]) upd_same), upd_same, en]
      · refine ⟨F2.same _ _ F.at_, ?_⟩
        rw [List.take_length] at lk
        have sb := F.back F2.same
        have ba : ∀ b, b ≠ a → back a H H2 b = H2 b := fun b hb => back_ne hb
        have Da : D ≠ a := (F.free hD).2
        have el : ks.length = es.length := by rw [le, hat.2.1]
        refine ⟨D, ts, Dc.kvs ks es, rfl, SqL.of (by rw [ba D Da]; exact eD), by rw [lt, Dc.kvs_len el, le], fun j k v e => ?_, by rw [Dc.kvs_len el, le]; omega, fun p hp => ?_⟩
        · obtain ⟨nm, x, h1, h2, h3, h4, _⟩ := Dc.kvs_at el hat.2.2.1 e
          obtain ⟨t, g1, g2, g3⟩ := tp j x h2
          refine ⟨t, g1, ?_⟩
          rw [ba t (F.free g3).2, g2, h3, h4, List.getD_eq_getElem?_getD, h1]
          rfl
        · have nk : ((Dc.kvs ks es).map (·.1)).Nodup := by
            rw [Dc.kvs_keys el]
            exact List.Pairwise.map _ (fun a b h z => h (Sum.inr.inj z)) hat.2.2.1
          have mk : mergeK [] (Dc.kvs ks es) = Dc.kvs ks es := mergeK_nodup _ _ (by simpa using nk)
          rw [mk]
          have hpH : H p = none := sb.free hp
          have np : p ∉ Dc.addrsL es := fun z => by
            have h1 := Dc.thereL F2.at_ z
            have pa : p ≠ a := (F.free (F2.new p z)).2
            rw [ba p pa] at hp
            exact h1 hp
          have FL : FreshL H (upd (back a H H2) p (.dK (Dc.kvs ks es))) es := by
            refine ⟨sb.put hpH, Dc.atL_frame es (fun b hb o e => ?_) F2.at_, F2.nd, fun b hb => ?_, fun b hb => (F.free (F2.new b hb)).1⟩
            · rw [upd_ne (fun z => np (by rw [← z]; exact hb)), ba b (F.free (F2.new b hb)).2]
              exact e
            · refine frz_up (Dc.thereL F2.at_ hb) (F2.own b hb) (fun o e => ?_)
              rw [upd_ne (fun z => np (by rw [← z]; exact hb)), ba b (F.free (F2.new b hb)).2]
              exact e
          exact q (.tab p ks es) _ (FL.tab hpH np el hat.2.2.1 upd_same) (by simp only [Dc.like]; exact ⟨trivial, lk⟩)
theorem all_Copy {f : Addr} {fd : FuncData} (F : Fun K "_law_copy" "_law_copy" sCopy f fd) (T : Txt mg) (b : Binds K fd ["_law_doc_here"] []) (m : mg "_law_copy" = some (.ref f)) : ∀ n : Nat, FnOk P w K mg base CX0 n f fd ["_law_doc_here"] (spCopy n)
  | 0 => none0 (fun vs H Q E h => by obtain ⟨d, _, _, h0, _⟩ := h; have := Dc.deep_pos d; omega)
  | n + 1 => ok_Copy F T (Df.mk' F b m (all_Copy F T b m n))
end
end K12

set_option Elab.async false
set_option linter.all false
set_option maxRecDepth 100000
set_option maxHeartbeats 40000000
namespace K12
open PySem L2
section
variable {P : Program} {w : World} {K : PySem.W.Frag} {mg : Str → Option Value} {base : Heap}
theorem scOdd : FnScope ["_law_cell_here", "_law_names_here", "_law_one", "_law_at", "_law_wrong", "_law_some", "_law_odd_here"] ["_law_cell_here", "_law_names_here"] (defScope sOdd) := ⟨rfl, rfl, rfl, by decide +kernel, rfl, by decide +kernel, by decide +kernel⟩
theorem ok_Odd {f : Addr} {fd : FuncData} (F : Fun K "_law_odd" "_law_odd" sOdd f fd) (T : Txt mg) (DMix : Df P w K mg base "_law_mix" ["_law_cell_here", "_law_k"] 1 spMix) : FnOk P w K mg base CX0 2 f fd ["_law_cell_here", "_law_names_here"] spOdd := by
  obtain ⟨fMix, dMix, kMix, bMix, mMix, GMix⟩ := DMix.ex
  refine F.ok scOdd (fun vs H Q E h => ?_) (fun cdv A outer s H vs Q E hr h => ?_)
  · obtain ⟨c, n, ys, rfl, hn, q⟩ := h
    rfl
  · obtain ⟨c, n, ys, rfl, hn, q⟩ := h
    have nd := scOdd.nd
    have hu := hu_of hr
    have hrMix : Room 1 _ := hr.mono (by first | decide | omega)
    refine ⟨_, (pss_cons (ps_set (i := 2) nd rfl (Or.inl rfl) (pe_ix (r := rIxL K) ix_list (pv 1) (pe_op op_mod (pe_call GMix hrMix rfl mMix kMix bMix .nil pass0 (pa_cons (pv 0) (pa_cons pe_int pa_nil))) pe_int) (fun _ _ => rfl)))
      (pss_cons (ps_set (i := 3) nd rfl (Or.inl rfl) (pe_op op_mod (pe_call GMix hrMix rfl mMix kMix bMix .nil pass0 (pa_cons (pv 0) (pa_cons pe_int pa_nil))) (pe_op op_add (pe_callB call_len_str rfl T.len PySem.boot_len (pa_cons (pv 2) pa_nil)) pe_int)))
      (pss_cons (ps_set (i := 4) nd rfl (Or.inl rfl) (pe_op op_add_str (pe_op op_add_str (pe_slice sl_str (pv 2) po_none (po_some (pv 3))) (pe_ix ix_str pe_str (pe_op op_mod (pe_call GMix hrMix rfl mMix kMix bMix .nil pass0 (pa_cons (pv 0) (pa_cons pe_int pa_nil))) pe_int) (fun _ _ => rfl))) (pe_slice sl_str (pv 2) (po_some (pv 3)) po_none)))
      (pss_cons (ps_set (i := 5) nd rfl (Or.inl rfl) (pe_lst (pa_cons pe_bl (pa_cons pe_bl (pa_cons pe_non (pa_cons (pe_tup pa_nil) (pa_cons (pe_tup (pa_cons (pv 2) pa_nil)) (pa_cons (pe_tup (pa_cons pe_str (pa_cons pe_int pa_nil))) (pa_cons (pv 4) (pa_cons pe_str (pa_cons (pe_rev (pv 4) (po_some (pe_un un_neg pe_int))) (pa_cons (pe_op op_add_str (pv 2) pe_str) (pa_cons (pe_tup (pa_cons pe_int (pa_cons pe_int pa_nil))) pa_nil)))))))))))))
      (pss_cons (ps_set (i := 5) nd rfl (Or.inl rfl) (pe_op op_cat (pv 5) (pe_lst (pa_cons (pe_disp (pps_cons pe_str pe_int pps_nil) rfl rfl (by simp) (by simp)) (pa_cons (pe_disp (pps_cons (pv 4) pe_int pps_nil) rfl rfl (by simp) (by simp)) (pa_cons (pe_disp (pps_cons pe_int pe_int pps_nil) rfl rfl (by simp) (by simp)) (pa_cons (pe_disp (pps_cons pe_str (pe_lst pa_nil) pps_nil) rfl rfl (by simp) (by simp)) (pa_cons (pe_dispO (pps_cons pe_bl pe_int pps_nil)) (pa_cons (pe_dispO (pps_cons pe_non (pv 2) pps_nil)) (pa_cons (pe_dispT hu (pps_cons (pe_tup (pa_cons (pv 2) pa_nil)) pe_int pps_nil)) (pa_cons (pe_disp (pps_cons (pv 2) pe_non pps_nil) rfl rfl (by simp) (by simp)) pa_nil)))))))))))
      (pss_cons (ps_set (i := 6) nd rfl (Or.inl rfl) (pe_ix (r := rIxL K) ix_list (pv 5) (pe_op op_mod (pe_call GMix hrMix rfl mMix kMix bMix .nil pass0 (pa_cons (pv 0) (pa_cons pe_int pa_nil))) pe_int) (fun _ _ => rfl)))
      (pss_one (ps_ret (pe_ix (r := rIxL K) ix_list (pe_lst (pa_cons (pv 6) (pa_cons (pv 6) (pa_cons (pv 6) (pa_cons (pe_lst (pa_cons (pv 6) pa_nil)) (pa_cons (pe_lst (pa_cons pe_int (pa_cons (pv 6) pa_nil))) (pa_cons (pe_disp (pps_cons (pe_ix (r := rIxL K) ix_list (pv 1) pe_int (fun _ _ => rfl)) (pv 6) pps_nil) rfl rfl (by simp) (by simp)) pa_nil))))))) (pe_op op_mod (pe_call GMix hrMix rfl mMix kMix bMix .nil pass0 (pa_cons (pv 0) (pa_cons pe_int pa_nil))) pe_int) (fun _ _ => rfl)))))))))), ?_⟩
    obtain ⟨hn0, l6, nd0, ny⟩ := hn
    refine ⟨_, rfl, _, rfl, c, 1, rfl, by decide, fun r1 _ _ => ⟨_, _, rfl, rfl, (by show (0 : Int) < _; decide), ?_⟩⟩
    have m1 := mod_b r1 (n := 6) (by decide)
    obtain ⟨v1, hv1, mv1⟩ := pick_mem (xs := ys.map V.str) m1.1 (by rw [List.length_map, l6]; exact m1.2)
    obtain ⟨one, h1, rfl⟩ := List.mem_map.mp mv1
    refine ⟨n, _, _, _, rfl, rfl, SqL.of hn0, hv1, ?_⟩
    have n1 := ny one h1
    have l1 := nameB_len n1
    refine ⟨_, rfl, c, 2, rfl, by decide, fun r2 _ _ => ⟨_, rfl, one, rfl, le_line (by omega), _, _, rfl, rfl, _, _, rfl, rfl, (by show (0 : Int) < (one.length : Int) + 1; omega), ?_⟩⟩
    obtain ⟨at1, hat1⟩ : ∃ j : Int, r2 % ((one.length : Int) + 1) = j := ⟨_, rfl⟩
    rw [hat1]
    refine ⟨_, rfl, _, rfl, _, rfl, one, rfl, le_line (by omega), _, rfl, c, 3, rfl, by decide, fun r3 _ _ => ?_⟩
    have m3 := mod_b r3 (n := 12) (by decide)
    obtain ⟨ch, hch, nch, sch⟩ := odd_sign (r3 % 12) m3.1 m3.2
    have la : (Txt.slice one none (some at1)).length ≤ 8 := Nat.le_trans (Txt.slice_le one _ _) l1.2
    have lb : (Txt.slice one (some at1) none).length ≤ 8 := Nat.le_trans (Txt.slice_le one _ _) l1.2
    have lab : (Txt.slice one none (some at1) ++ (⟨#[ch]⟩ : Str)).length ≤ 9 := by rw [Str.length_append]; show _ + 1 ≤ 9; omega
    refine ⟨_, _, rfl, rfl, (by show (0 : Int) < _; decide), "A0 _.-[]Z9,:", _, ch, rfl, rfl, by decide, hch, _, _, rfl, rfl, ?_, _, rfl, _, rfl, _, rfl, one, rfl, le_line (by omega), _, _, rfl, rfl, ?_, ?_⟩
    · exact Nat.le_of_lt (small1000 (by show (Txt.slice one none (some at1)).length + 1 ≤ 1000; omega))
    · exact Nat.le_of_lt (small1000 (by omega))
    obtain ⟨W, hW⟩ : ∃ W, W = Txt.slice one none (some at1) ++ ⟨#[ch]⟩ ++ Txt.slice one (some at1) none := ⟨_, rfl⟩
    have lW : W.length ≤ 17 := by rw [hW, Str.length_append]; omega
    have cW : ch ∈ sgn W := by
      rw [hW, sgn_append, sgn_append]
      exact List.mem_append_left _ (List.mem_append_right _ (show ch ∈ [ch] from List.mem_singleton.mpr rfl))
    have small1 : ∀ z ∈ sgn one, z < 16 ^ 8 := fun z hz => isL_small (List.all_eq_true.mp (nameB_all n1) z hz)
    have sW : ∀ z ∈ sgn W, z < 16 ^ 8 := fun z hz => by
      rw [hW, sgn_append, sgn_append, sgn_slice, sgn_slice] at hz
      rcases List.mem_append.mp hz with hz | hz
      · rcases List.mem_append.mp hz with hz | hz
        · exact small1 z (mem_cutN hz)
        · rw [show z = ch from List.mem_singleton.mp hz]; exact sch
      · exact small1 z (mem_cutN hz)
    rw [← hW]
    refine ⟨Nat.zero_le _, fun p1 hp1 => ?_⟩
    have t1 := Same.new (o := .tup []) hp1
    have f1 : upd H p1 (.tup []) p1 = some (.tup []) := upd_same
    generalize upd H p1 (.tup []) = H1 at t1 f1 ⊢
    refine ⟨_, rfl, one_line, fun p2 hp2 => ?_⟩
    have t2 := Same.new (o := .tup [.str one]) hp2
    have f2 : upd H1 p2 (.tup [.str one]) p2 = some (.tup [.str one]) := upd_same
    generalize upd H1 p2 (.tup [.str one]) = H2 at t2 f2 ⊢
    refine ⟨two_line, fun p3 hp3 => ?_⟩
    have t3 := Same.new (o := .tup [.str "a", .int 1]) hp3
    have f3 : upd H2 p3 (.tup [.str "a", .int 1]) p3 = some (.tup [.str "a", .int 1]) := upd_same
    generalize upd H2 p3 (.tup [.str "a", .int 1]) = H3 at t3 f3 ⊢
    refine ⟨_, rfl, ⟨_, rfl, _, rfl, _, rfl, W, rfl, rfl, le_line (by omega), ?_⟩⟩
    have ln : (one ++ ("\n" : Str)).length ≤ 9 := by rw [Str.length_append]; show _ + 1 ≤ 9; omega
    refine ⟨_, rfl, _, _, rfl, rfl, Nat.le_of_lt (small1000 (by show one.length + 1 ≤ 1000; omega)), two_line, fun p4 hp4 => ?_⟩
    have t4 := Same.new (o := .tup [.int 1, .int 2]) hp4
    have f4 : upd H3 p4 (.tup [.int 1, .int 2]) p4 = some (.tup [.int 1, .int 2]) := upd_same
    generalize upd H3 p4 (.tup [.int 1, .int 2]) = H4 at t4 f4 ⊢
    refine ⟨le_line (show 11 ≤ 1000 by decide), fun L1 hL1 => ?_⟩
    have tL1 := Same.new (o := .lst [.bl true, .bl false, .non, .ref p1, .ref p2, .ref p3, .str W, .str "abcdefghijklm", .str (revS W), .str (one ++ "\n"), .ref p4]) hL1
    have fL1 : upd H4 L1 (.lst [.bl true, .bl false, .non, .ref p1, .ref p2, .ref p3, .str W, .str "abcdefghijklm", .str (revS W), .str (one ++ "\n"), .ref p4]) L1 = some (.lst [.bl true, .bl false, .non, .ref p1, .ref p2, .ref p3, .str W, .str "abcdefghijklm", .str (revS W), .str (one ++ "\n"), .ref p4]) := upd_same
    generalize upd H4 L1 (.lst [.bl true, .bl false, .non, .ref p1, .ref p2, .ref p3, .str W, .str "abcdefghijklm", .str (revS W), .str (one ++ "\n"), .ref p4]) = G0 at tL1 fL1 ⊢
    have s4 : Same H4 G0 := tL1
    have s3 := t4.trans s4
    have s2 := t3.trans s3
    have s1 := t2.trans s2
    have s0 := t1.trans s1
    refine ⟨_, rfl, ?_⟩
    refine fun q1 hq1 => ⟨upd_same, [(Sum.inr ("" : Str), V.int 1)], rfl, by simp, ?_⟩
    have eq1 : mergeK [] [((Sum.inr ("" : Str) : Key), (V.int 1 : V))] = [(Sum.inr ("" : Str), V.int 1)] := rfl
    rw [eq1]
    have tq1 : Same G0 (upd (upd G0 q1 (.dK [])) q1 (.dK [(Sum.inr ("" : Str), V.int 1)])) := (Same.new hq1).put hq1
    have fq1 : (upd (upd G0 q1 (.dK [])) q1 (.dK [(Sum.inr ("" : Str), V.int 1)])) q1 = some (.dK [(Sum.inr ("" : Str), V.int 1)]) := upd_same
    generalize upd (upd G0 q1 (.dK [])) q1 (.dK [(Sum.inr ("" : Str), V.int 1)]) = G1 at tq1 fq1 ⊢
    refine fun q2 hq2 => ⟨_, rfl, upd_same, [(Sum.inr W, V.int 1)], rfl, by simp, ?_⟩
    have eq2 : mergeK [] [((Sum.inr W : Key), (V.int 1 : V))] = [(Sum.inr W, V.int 1)] := rfl
    rw [eq2]
    have tq2 : Same G1 (upd (upd G1 q2 (.dK [])) q2 (.dK [(Sum.inr W, V.int 1)])) := (Same.new hq2).put hq2
    have fq2 : (upd (upd G1 q2 (.dK [])) q2 (.dK [(Sum.inr W, V.int 1)])) q2 = some (.dK [(Sum.inr W, V.int 1)]) := upd_same
    generalize upd (upd G1 q2 (.dK [])) q2 (.dK [(Sum.inr W, V.int 1)]) = G2 at tq2 fq2 ⊢
    refine fun q3 hq3 => ⟨upd_same, [(Sum.inl (1 : Int), V.int 2)], rfl, by simp, ?_⟩
    have eq3 : mergeK [] [((Sum.inl (1 : Int) : Key), (V.int 2 : V))] = [(Sum.inl (1 : Int), V.int 2)] := rfl
    rw [eq3]
    have tq3 : Same G2 (upd (upd G2 q3 (.dK [])) q3 (.dK [(Sum.inl (1 : Int), V.int 2)])) := (Same.new hq3).put hq3
    have fq3 : (upd (upd G2 q3 (.dK [])) q3 (.dK [(Sum.inl (1 : Int), V.int 2)])) q3 = some (.dK [(Sum.inl (1 : Int), V.int 2)]) := upd_same
    generalize upd (upd G2 q3 (.dK [])) q3 (.dK [(Sum.inl (1 : Int), V.int 2)]) = G3 at tq3 fq3 ⊢
    refine fun q4 hq4 => ⟨Nat.zero_le _, fun l4 hl4 => ⟨by rw [upd_ne (ne_of_none upd_same hl4), upd_same], [(Sum.inr ("abcdefghi" : Str), .ref l4)], rfl, by simp, ?_⟩⟩
    have eq4 : mergeK [] [((Sum.inr ("abcdefghi" : Str) : Key), V.ref l4)] = [(Sum.inr ("abcdefghi" : Str), .ref l4)] := rfl
    rw [eq4]
    have nl4 : l4 ≠ q4 := Ne.symm (ne_of_none upd_same hl4)
    have tq4 : Same G3 (upd (upd (upd G3 q4 (.dK [])) l4 (.lst [])) q4 (.dK [(Sum.inr ("abcdefghi" : Str), .ref l4)])) := ((Same.new hq4).trans (Same.new hl4)).put hq4
    have fq4 : (upd (upd (upd G3 q4 (.dK [])) l4 (.lst [])) q4 (.dK [(Sum.inr ("abcdefghi" : Str), .ref l4)])) q4 = some (.dK [(Sum.inr ("abcdefghi" : Str), .ref l4)]) := upd_same
    have fl4 : (upd (upd (upd G3 q4 (.dK [])) l4 (.lst [])) q4 (.dK [(Sum.inr ("abcdefghi" : Str), .ref l4)])) l4 = some (.lst []) := by rw [upd_ne nl4, upd_same]
    generalize upd (upd (upd G3 q4 (.dK [])) l4 (.lst [])) q4 (.dK [(Sum.inr ("abcdefghi" : Str), .ref l4)]) = G4 at tq4 fq4 fl4 ⊢
    refine fun q5 hq5 => ⟨upd_same, true, .int 1, rfl, fun o5 => ?_⟩
    have tq5 : Same G4 (upd (upd G4 q5 (.dK [])) q5 (OdO q5 o5 (ovK true) (.int 1))) := (Same.new hq5).put hq5
    have fq5 : (upd (upd G4 q5 (.dK [])) q5 (OdO q5 o5 (ovK true) (.int 1))) q5 = some (OdO q5 o5 (ovK true) (.int 1)) := upd_same
    generalize upd (upd G4 q5 (.dK [])) q5 (OdO q5 o5 (ovK true) (.int 1)) = G5 at tq5 fq5 ⊢
    refine fun q6 hq6 => ⟨_, rfl, upd_same, false, .str one, rfl, fun o6 => ?_⟩
    have tq6 : Same G5 (upd (upd G5 q6 (.dK [])) q6 (OdO q6 o6 (ovK false) (.str one))) := (Same.new hq6).put hq6
    have fq6 : (upd (upd G5 q6 (.dK [])) q6 (OdO q6 o6 (ovK false) (.str one))) q6 = some (OdO q6 o6 (ovK false) (.str one)) := upd_same
    generalize upd (upd G5 q6 (.dK [])) q6 (OdO q6 o6 (ovK false) (.str one)) = G6 at tq6 fq6 ⊢
    refine fun q7 hq7 => ⟨_, rfl, one_line, fun l7 hl7 => ⟨by rw [upd_ne (ne_of_none upd_same hl7), upd_same], l7, [Sum.inr one], .int 1, rfl, upd_same, fun o7 => ?_⟩⟩
    have nl7 : l7 ≠ q7 := Ne.symm (ne_of_none upd_same hl7)
    have tq7 : Same G6 (upd (upd (upd G6 q7 (.dK [])) l7 (.tup [.str one])) q7 (OdO q7 o7 (.ref l7) (.int 1))) := ((Same.new hq7).trans (Same.new hl7)).put hq7
    have fq7 : (upd (upd (upd G6 q7 (.dK [])) l7 (.tup [.str one])) q7 (OdO q7 o7 (.ref l7) (.int 1))) q7 = some (OdO q7 o7 (.ref l7) (.int 1)) := upd_same
    have fl7 : (upd (upd (upd G6 q7 (.dK [])) l7 (.tup [.str one])) q7 (OdO q7 o7 (.ref l7) (.int 1))) l7 = some (.tup [.str one]) := by rw [upd_ne nl7, upd_same]
    generalize upd (upd (upd G6 q7 (.dK [])) l7 (.tup [.str one])) q7 (OdO q7 o7 (.ref l7) (.int 1)) = G7 at tq7 fq7 fl7 ⊢
    refine fun q8 hq8 => ⟨_, rfl, upd_same, [(Sum.inr one, V.non)], rfl, by simp, ?_⟩
    have eq8 : mergeK [] [((Sum.inr one : Key), (V.non : V))] = [(Sum.inr one, V.non)] := rfl
    rw [eq8]
    have tq8 : Same G7 (upd (upd G7 q8 (.dK [])) q8 (.dK [(Sum.inr one, V.non)])) := (Same.new hq8).put hq8
    have fq8 : (upd (upd G7 q8 (.dK [])) q8 (.dK [(Sum.inr one, V.non)])) q8 = some (.dK [(Sum.inr one, V.non)]) := upd_same
    generalize upd (upd G7 q8 (.dK [])) q8 (.dK [(Sum.inr one, V.non)]) = G8 at tq8 fq8 ⊢
    refine ⟨le_line (show 8 ≤ 1000 by decide), fun L2 hL2 => ?_⟩
    have tL2 := Same.new (o := .lst [.ref q1, .ref q2, .ref q3, .ref q4, .ref q5, .ref q6, .ref q7, .ref q8]) hL2
    have fL2 : upd G8 L2 (.lst [.ref q1, .ref q2, .ref q3, .ref q4, .ref q5, .ref q6, .ref q7, .ref q8]) L2 = some (.lst [.ref q1, .ref q2, .ref q3, .ref q4, .ref q5, .ref q6, .ref q7, .ref q8]) := upd_same
    generalize upd G8 L2 (.lst [.ref q1, .ref q2, .ref q3, .ref q4, .ref q5, .ref q6, .ref q7, .ref q8]) = G9 at tL2 fL2 ⊢
    have u8 : Same G8 G9 := tL2
    have u7 := tq8.trans u8
    have u6 := tq7.trans u7
    have u5 := tq6.trans u6
    have u4 := tq5.trans u5
    have u3 := tq4.trans u4
    have u2 := tq3.trans u3
    have u1 := tq2.trans u2
    have u0 := tq1.trans u1
    refine ⟨L1, L2, _, _, rfl, rfl, u0 _ _ fL1, fL2, le_line (show 11 + 8 ≤ 1000 by decide), fun L3 hL3 => ?_⟩
    have tL3 := Same.new (o := .lst ([V.bl true, .bl false, .non, .ref p1, .ref p2, .ref p3, .str W, .str "abcdefghijklm", .str (revS W), .str (one ++ "\n"), .ref p4] ++ [.ref q1, .ref q2, .ref q3, .ref q4, .ref q5, .ref q6, .ref q7, .ref q8])) hL3
    have fL3 : upd G9 L3 (.lst ([V.bl true, .bl false, .non, .ref p1, .ref p2, .ref p3, .str W, .str "abcdefghijklm", .str (revS W), .str (one ++ "\n"), .ref p4] ++ [.ref q1, .ref q2, .ref q3, .ref q4, .ref q5, .ref q6, .ref q7, .ref q8])) L3 = some (.lst ([V.bl true, .bl false, .non, .ref p1, .ref p2, .ref p3, .str W, .str "abcdefghijklm", .str (revS W), .str (one ++ "\n"), .ref p4] ++ [.ref q1, .ref q2, .ref q3, .ref q4, .ref q5, .ref q6, .ref q7, .ref q8])) := upd_same
    have all : ∀ v ∈ ([V.bl true, .bl false, .non, .ref p1, .ref p2, .ref p3, .str W, .str "abcdefghijklm", .str (revS W), .str (one ++ "\n"), .ref p4] ++ [.ref q1, .ref q2, .ref q3, .ref q4, .ref q5, .ref q6, .ref q7, .ref q8]), OddV G9 v := by
      intro v hv
      have F1 : ∀ {Hx : Hp} {b k : Nat}, 8 ≤ b → Fin1 Hx (.str one) b k := fun h => Fin1.str (nameB_all n1) (by omega)
      have FI : ∀ {Hx : Hp} {i : Int} {b k : Nat}, i.natAbs < 1000 → Fin1 Hx (.int i) b k := fun h => (Fin1.int (Nat.lt_of_lt_of_le h (by decide))).mono (Nat.zero_le _) (Nat.le_refl _)
      have nk : ∀ {z : Nat}, isL z = false → z < 16 ^ 8 → True := fun _ _ => trivial
      have kS : ∀ {x : Str} {b k : Nat}, (∀ z ∈ sgn x, z < 16 ^ 8) → x.length ≤ b → ∃ D, keyD (Sum.inr x) = D ∧ D.showable = true ∧ D.leavesShort 2000 = true ∧ D.bulk ≤ b ∧ D.depth ≤ k := fun {x b k} h l => ⟨.str x, rfl, rfl, by simp only [PyData.leavesShort, List.all_eq_true, decide_eq_true_eq]; exact h, l, Nat.zero_le _⟩
      rcases List.mem_append.mp hv with hv | hv
      · simp only [List.mem_cons, List.not_mem_nil, or_false] at hv
        rcases hv with rfl | rfl | rfl | rfl | rfl | rfl | rfl | rfl | rfl | rfl | rfl
        · exact .of (.bl true) .bl
        · exact .of (.bl false) .bl
        · exact .of .non .non
        · exact .of (.tup ((s1.trans u0) _ _ f1)) ((Fin1.tup (n := 0) ((s1.trans u0) _ _ f1) FinL.nil).mono (by decide) (by decide))
        · exact .of (.tup ((s2.trans u0) _ _ f2)) ((Fin1.tup (n := 0) ((s2.trans u0) _ _ f2) (FinL.cons (b := 8) (F1 (Nat.le_refl _)) FinL.nil)).mono (by decide) (by decide))
        · exact .of (.tup ((s3.trans u0) _ _ f3)) ((Fin1.tup (n := 0) ((s3.trans u0) _ _ f3) (FinL.cons (b := 1) (Fin1.str (by decide +kernel) (by decide)) (FinL.cons (b := 0) (FI (by decide)) FinL.nil))).mono (by decide) (by decide))
        · exact .of (.txt (by omega) (txtB_bad cW nch)) (Fin1.txt sW (by omega))
        · exact .of (.txt (by decide +kernel) (by decide +kernel)) (Fin1.str (by decide +kernel) (by decide +kernel))
        · have lr : (revS W).length = W.length := revS_len W
          exact .of (.txt (by omega) (txtB_bad (c := ch) (by rw [sgn_rev]; exact List.mem_reverse.mpr cW) nch)) (Fin1.txt (fun z hz => sW z (by rw [sgn_rev] at hz; exact List.mem_reverse.mp hz)) (by omega))
        · have e10 : sgn ("\n" : Str) = [10] := by decide +kernel
          refine .of (.txt (by omega) (txtB_bad (c := 10) (by rw [sgn_append, e10]; exact List.mem_append_right _ (List.mem_singleton.mpr rfl)) (by decide +kernel))) (Fin1.txt (fun z hz => ?_) (by omega))
          rw [sgn_append, e10] at hz
          rcases List.mem_append.mp hz with hz | hz
          · exact small1 z hz
          · rw [List.mem_singleton.mp hz]; decide
        · exact .of (.tup ((s4.trans u0) _ _ f4)) ((Fin1.tup (n := 0) ((s4.trans u0) _ _ f4) (FinL.cons (b := 0) (FI (by decide)) (FinL.cons (b := 0) (FI (by decide)) FinL.nil))).mono (by decide) (by decide))
      · simp only [List.mem_cons, List.not_mem_nil, or_false] at hv
        rcases hv with rfl | rfl | rfl | rfl | rfl | rfl | rfl | rfl
        · exact .of (.key (.inl (u1 _ _ fq1)) (by decide +kernel) (fun x e => by cases e; decide +kernel)) ((Fin1.key (n := 0) (.inl (u1 _ _ fq1)) (kS (b := 0) (fun z hz => by rw [show sgn ("" : Str) = [] from by decide +kernel] at hz; cases hz) (by decide +kernel)) (FI (b := 0) (by decide))).mono (by decide) (by decide))
        · exact .of (.key (.inl (u2 _ _ fq2)) (show nameB W = false from nameB_bad cW nch) (fun x e => by cases e; omega)) ((Fin1.key (n := 0) (.inl (u2 _ _ fq2)) (kS (b := 17) sW lW) (FI (b := 0) (by decide))).mono (by decide) (by decide))
        · exact .of (.key (.inl (u3 _ _ fq3)) rfl (fun x e => by cases e)) ((Fin1.key (b := 0) (n := 0) (.inl (u3 _ _ fq3)) ⟨.int 1, rfl, by decide +kernel, by decide +kernel, by decide, by decide⟩ (FI (b := 0) (by decide))).mono (by decide) (by decide))
        · exact .of (.key (.inl (u4 _ _ fq4)) (by decide +kernel) (fun x e => by cases e; decide +kernel)) ((Fin1.key (n := 1) (.inl (u4 _ _ fq4)) (kS (b := 9) (by decide +kernel) (by decide +kernel)) (Fin1.lst (n := 0) (.inl (u4 _ _ fl4)) FinL.nil)).mono (by decide) (by decide))
        · exact .of (.odd (u5 _ _ fq5) (.bl true) rfl (fun x e => by cases e)) ((Fin1.odd (n := 0) (b := 0) (c := 0) (u5 _ _ fq5) .bl (FI (by decide))).mono (by decide) (by decide))
        · exact .of (.odd (u6 _ _ fq6) .non rfl (fun x e => by cases e)) ((Fin1.odd (n := 0) (b := 0) (c := 8) (u6 _ _ fq6) .non (F1 (Nat.le_refl _))).mono (by decide) (by decide))
        · exact .of (.odd (u7 _ _ fq7) (.tup (u7 _ _ fl7)) rfl (fun x e => by cases e)) ((Fin1.odd (n := 1) (b := 9) (c := 0) (u7 _ _ fq7) (Fin1.tup (n := 0) (u7 _ _ fl7) (FinL.cons (b := 8) (F1 (Nat.le_refl _)) FinL.nil)) (FI (by decide))).mono (by decide) (by decide))
        · exact ⟨5, by decide, Tr.node (k := 1) (.tab (ks := [one]) (.inl (u8 _ _ fq8)) rfl (by simp) (fun z hz => by rw [List.mem_singleton.mp hz]; exact n1) (show 1 < 64 by decide)) (Trs.one (.odd .non .non))⟩
    generalize upd G9 L3 (.lst ([V.bl true, .bl false, .non, .ref p1, .ref p2, .ref p3, .str W, .str "abcdefghijklm", .str (revS W), .str (one ++ "\n"), .ref p4] ++ [.ref q1, .ref q2, .ref q3, .ref q4, .ref q5, .ref q6, .ref q7, .ref q8])) = GA at tL3 fL3 ⊢
    refine ⟨_, rfl, _, rfl, c, 0, rfl, by decide, fun r0 _ _ => ⟨_, _, rfl, rfl, (by show (0 : Int) < _; decide), ?_⟩⟩
    have m0 := mod_b r0 (n := 19) (by decide)
    obtain ⟨o, ho, mo⟩ := pick_mem (xs := (([V.bl true, .bl false, .non, .ref p1, .ref p2, .ref p3, .str W, .str "abcdefghijklm", .str (revS W), .str (one ++ "\n"), .ref p4] ++ [.ref q1, .ref q2, .ref q3, .ref q4, .ref q5, .ref q6, .ref q7, .ref q8]) : List V)) m0.1 (by show r0 % 19 < ((11 + 8 : Nat) : Int); exact m0.2)
    refine ⟨L3, _, _, _, rfl, rfl, SqL.of fL3, ho, ?_⟩
    obtain ⟨mm, lm, tr⟩ := (all o mo).up tL3
    have SA : Same H GA := ((s0.trans u0).trans tL3)
    clear all mo ho fL3 fL2 fL1
    refine ⟨_, rfl, _, rfl, _, rfl, _, rfl, one_line, fun b1 hb1 => ?_⟩
    have w1 := Same.new (o := .lst [o]) hb1
    have e1 : upd GA b1 (.lst [o]) b1 = some (.lst [o]) := upd_same
    generalize upd GA b1 (.lst [o]) = B1 at w1 e1 ⊢
    refine ⟨_, rfl, two_line, fun b2 hb2 => ?_⟩
    have w2 := Same.new (o := .lst [.int 0, o]) hb2
    have e2 : upd B1 b2 (.lst [.int 0, o]) b2 = some (.lst [.int 0, o]) := upd_same
    generalize upd B1 b2 (.lst [.int 0, o]) = B2 at w2 e2 ⊢
    obtain ⟨y3, a3, k3⟩ : ∃ y, atI (ys.map V.str) 3 = some (.str y) ∧ nameB y = true := ⟨ys[3]'(by omega), atI_nat (j := 3) (by rw [List.getElem?_map, List.getElem?_eq_getElem (by omega)]; rfl), ny _ (List.getElem_mem _)⟩
    refine fun b3 hb3 => ⟨_, rfl, n, _, _, _, rfl, rfl, SqL.of ((((SA.trans w1).trans w2).trans (Same.new hb3)) _ _ hn0), a3, _, rfl, upd_same, [(Sum.inr y3, o)], rfl, by simp, ?_⟩
    have eb3 : mergeK [] [((Sum.inr y3 : Key), o)] = [(Sum.inr y3, o)] := rfl
    rw [eb3]
    have w3 : Same B2 (upd (upd B2 b3 (.dK [])) b3 (.dK [(Sum.inr y3, o)])) := (Same.new hb3).put hb3
    have e3 : upd (upd B2 b3 (.dK [])) b3 (.dK [(Sum.inr y3, o)]) b3 = some (.dK [(Sum.inr y3, o)]) := upd_same
    generalize upd (upd B2 b3 (.dK [])) b3 (.dK [(Sum.inr y3, o)]) = B3 at w3 e3 ⊢
    refine ⟨le_line (show 6 ≤ 1000 by decide), fun L4 hL4 => ?_⟩
    have w4 := Same.new (o := .lst [o, o, o, .ref b1, .ref b2, .ref b3]) hL4
    have e4 : upd B3 L4 (.lst [o, o, o, .ref b1, .ref b2, .ref b3]) L4 = some (.lst [o, o, o, .ref b1, .ref b2, .ref b3]) := upd_same
    generalize upd B3 L4 (.lst [o, o, o, .ref b1, .ref b2, .ref b3]) = B4 at w4 e4 ⊢
    refine ⟨_, rfl, c, 4, rfl, by decide, fun r4 _ _ => ⟨_, _, rfl, rfl, (by show (0 : Int) < _; decide), ?_⟩⟩
    have m4 := mod_b r4 (n := 6) (by decide)
    obtain ⟨v, hv, mv⟩ := pick_mem (xs := [o, o, o, V.ref b1, .ref b2, .ref b3]) m4.1 m4.2
    refine ⟨L4, _, _, _, rfl, rfl, SqL.of e4, hv, ?_⟩
    have x3 := w3.trans w4
    have x2 := w2.trans x3
    have x1 := w1.trans x2
    have SB := SA.trans x1
    have trB := tr.up x1
    simp only [List.mem_cons, List.not_mem_nil, or_false] at mv
    have same3 : v = o → Q v B4 := fun e => by rw [e]; exact q o B4 mm 2 SB trB (by omega) (by decide)
    rcases mv with e | e | e | e | e | e
    · exact same3 e
    · exact same3 e
    · exact same3 e
    · rw [e]; exact q _ B4 _ 3 SB (Tr.node (.row (.inl (x2 _ _ e1))) (Trs.one trB)) (by omega) (by decide)
    · rw [e]
      exact q _ B4 _ 3 SB (Tr.node (.row (.inl (x3 _ _ e2))) (Trs.cons (Tr.node (k := 1) (.leaf (.inl ⟨0, rfl, by decide⟩)) .nil) (Trs.one trB))) (by omega) (by decide)
    · rw [e]
      exact q _ B4 _ 3 SB (Tr.node (.tab (ks := [y3]) (.inl (w4 _ _ e3)) rfl (by simp) (fun z hz => by rw [List.mem_singleton.mp hz]; exact k3) (show 1 < 64 by decide)) (Trs.one trB)) (by omega) (by decide)
end
end K12

set_option Elab.async false
set_option linter.all false
set_option maxRecDepth 100000
set_option maxHeartbeats 40000000
namespace K12
open PySem L2
section
variable {P : Program} {w : World} {K : PySem.W.Frag} {mg : Str → Option Value} {base : Heap}
theorem scHolders : FnScope ["_law_doc_here", "_law_found", "_law_one", "_law_name"] ["_law_doc_here"] (defScope sHolders) := ⟨rfl, rfl, rfl, by decide +kernel, rfl, by decide +kernel, by decide +kernel⟩
theorem ok_Holders {n : Nat} {f : Addr} {fd : FuncData} (F : Fun K "_law_holders" "_law_holders" sHolders f fd) (T : Txt mg) (DHolders : Df P w K mg base "_law_holders" ["_law_doc_here"] n (spHold n)) : FnOk P w K mg base CX0 (n + 1) f fd ["_law_doc_here"] (spHold (n + 1)) := by
  obtain ⟨fHolders, dHolders, kHolders, bHolders, mHolders, GHolders⟩ := DHolders.ex
  refine F.ok scHolders (fun vs H Q E h => ?_) (fun cdv A outer s H vs Q E hr h => ?_)
  · obtain ⟨d, rfl, hat, hdp, hsz, q⟩ := h
    rfl
  · obtain ⟨d, rfl, hat, hdp, hsz, q⟩ := h
    have nd := scHolders.nd
    have hu := hu_of hr
    have hrHolders : Room n _ := hr.mono (by first | decide | omega)
    refine ⟨_, (pss_cons (ps_set (i := 1) nd rfl (Or.inl rfl) (pe_lst pa_nil))
      (pss_cons (ps_if (pt_val (pe_callB call_isiN rfl T.isinstance b_isinstance (pa_cons (pv 0) (pa_cons (pe_bltn (v := .ty "list") rfl T.list b_list rfl) pa_nil)))) (pss_cons (ps_expr (pe_bm PySem.F.plainAttrs_list PySem.F.slot_list_append PySem.F.type_list_append mt_append (pv 1) (pa_cons (pv 0) pa_nil)))
      (pss_one (ps_for PassesOwn.never rfl (pi_list (pv 0)) (pg_name (i := 2) nd rfl (Or.inl rfl)) (pss_one (ps_expr (pe_bm PySem.F.plainAttrs_list PySem.F.slot_list_extend PySem.F.type_list_extend mt_extend (pv 1) (pa_cons (pe_call GHolders hrHolders rfl mHolders kHolders bHolders .nil pass0 (pa_cons (pv 2) pa_nil)) pa_nil))))))) pss_nil)
      (pss_cons (ps_if (pt_val (pe_callB call_isiN rfl T.isinstance b_isinstance (pa_cons (pv 0) (pa_cons (pe_bltn (v := .ty "dict") rfl T.dict b_dict rfl) pa_nil)))) (pss_cons (ps_expr (pe_bm PySem.F.plainAttrs_list PySem.F.slot_list_append PySem.F.type_list_append mt_append (pv 1) (pa_cons (pv 0) pa_nil)))
      (pss_one (ps_walk (ps_for PassesOwn.never rfl (pi_dict (pv 0)) (pg_name (i := 3) nd rfl (Or.inl rfl)) (pss_one (ps_expr (pe_bm PySem.F.plainAttrs_list PySem.F.slot_list_extend PySem.F.type_list_extend mt_extend (pv 1) (pa_cons (pe_call GHolders hrHolders rfl mHolders kHolders bHolders .nil pass0 (pa_cons (pe_dget hu (pv 0) (pv 3) (fun _ _ => rfl)) pa_nil)) pa_nil)))))))) pss_nil)
      (pss_one (ps_ret (pv 1)))))), ?_⟩
    refine ⟨Nat.zero_le _, fun p hp => ?_⟩
    have s0 := Same.new (o := .lst []) hp
    have hat0 := Dc.at_same s0 hat
    cases d with
    | leaf v =>
      refine ⟨_, rfl, _, "list", Dc.tyS (.leaf v), rfl, rfl, Dc.tyN hat0, _, rfl, iteBF (by cases v <;> rfl) ?_⟩
      refine ⟨_, rfl, _, "dict", Dc.tyS (.leaf v), rfl, rfl, Dc.tyN hat0, _, rfl, iteBF (by cases v <;> rfl) ?_⟩
      exact ⟨_, rfl, q p [] _ s0 hp upd_same (fun a h => (nomatch h)) (Nat.zero_le _)⟩
    | row a xs =>
      refine ⟨_, rfl, _, "list", _, rfl, rfl, Dc.tyN hat0, _, rfl, iteBT rfl ?_⟩
      have hat' := hat
      simp only [Dc.At] at hat'
      simp only [Dc.size] at hsz
      simp only [Dc.deep] at hdp
      refine ⟨_, rfl, .inl ⟨rfl, _, SqL.of upd_same⟩, _, rfl, p, _, _, rfl, rfl, upd_same, by decide, ?_⟩
      have s1 : Same H (upd (upd H p (.lst [])) p (.lst ([] ++ [V.ref a]))) := s0.put hp
      refine ⟨_, rfl, a, rfl, ⟨_, .inl (hat'.1.up (s1 _))⟩, for_list (xs := xs.map Dc.val) (fun i σ Hi => ∃ (o2 o3 : Option V) (as : List Addr), σ = [some (.ref a), some (.ref p), o2, o3] ∧ Same H Hi ∧ Hi p = some (.lst (as.map V.ref)) ∧ (∀ b ∈ as, b ∈ (Dc.row a xs).addrs) ∧ as.length ≤ 1 + Dc.sizeL (xs.take i))
        ⟨none, none, [a], rfl, s1, upd_same, fun b hb => by rw [List.mem_singleton.mp hb]; simp [Dc.addrs], by simp⟩ (fun i σ Hi _ ⟨_, _, _, _, s, _⟩ => .inl (hat'.1.up (s _))) ?_ ?_⟩
      · rintro i v σ Hi hv ⟨o2, o3, as, rfl, si, hpi, mi, li⟩
        obtain ⟨x, hx, rfl⟩ : ∃ x, xs[i]? = some x ∧ x.val = v := by
          rw [List.getElem?_map] at hv
          cases e : xs[i]? with
          | none => rw [e] at hv; cases hv
          | some x => rw [e] at hv; exact ⟨x, rfl, Option.some.inj hv⟩
        have hm := List.mem_of_getElem? hx
        have dx := Dc.deepL_mem hm
        have sx := Dc.sizeL_mem hm
        refine ⟨_, rfl, .inl ⟨rfl, _, SqL.of hpi⟩, _, rfl, x, rfl, Dc.at_same si (Dc.AtL_mem hat'.2 x hm), by omega, by omega, fun p2 bs H2 s2 np2 hp2 m2 l2 => ?_⟩
        have l3 := Dc.take_drop_size xs (i + 1)
        have l4 := Dc.sizeL_take_succ hx
        refine ⟨p, p2, _, _, rfl, rfl, s2 _ _ hpi, hp2, le_line (by simp only [List.length_map]; omega), _, _, as ++ bs, rfl, (si.trans s2).put hp, ?_, ?_, ?_⟩
        · rw [upd_same, List.map_append]
        · intro b hb
          rcases List.mem_append.mp hb with hb | hb
          · exact mi b hb
          · simp only [Dc.addrs]
            exact List.mem_cons_of_mem _ (Dc.addrsL_mem hm (m2 b hb))
        · rw [List.length_append]; omega
      · rintro σ Hi ⟨o2, o3, as, rfl, si, hpi, mi, li⟩
        refine ⟨_, rfl, _, "dict", _, rfl, rfl, Dc.tyN (H := Hi) (d := .row a xs) (Dc.at_same si hat), _, rfl, iteBF rfl ?_⟩
        refine ⟨_, rfl, q p as Hi si hp hpi mi ?_⟩
        rw [List.length_map, List.take_length] at li
        simp only [Dc.size]
        exact li
    | tab a ks xs =>
      refine ⟨_, rfl, _, "list", _, rfl, rfl, Dc.tyN hat0, _, rfl, iteBF rfl ?_⟩
      refine ⟨_, rfl, _, "dict", _, rfl, rfl, Dc.tyN hat0, _, rfl, iteBT rfl ?_⟩
      have hat' := hat
      simp only [Dc.At] at hat'
      simp only [Dc.size] at hsz
      simp only [Dc.deep] at hdp
      have kl : (Dc.kvs ks xs).length = xs.length := by
        have := congrArg List.length (Dc.kvs_keys (ks := ks) (xs := xs) hat'.2.1)
        rw [List.length_map, List.length_map] at this
        rw [this, hat'.2.1]
      refine ⟨_, rfl, .inl ⟨rfl, _, SqL.of upd_same⟩, _, rfl, p, _, _, rfl, rfl, upd_same, by decide, ?_⟩
      have s1 : Same H (upd (upd H p (.lst [])) p (.lst ([] ++ [(Dc.tab a ks xs).val]))) := s0.put hp
      have h1 : upd (upd H p (.lst [])) p (.lst ([] ++ [(Dc.tab a ks xs).val])) p = some (.lst [V.ref a]) := upd_same
      generalize upd (upd H p (.lst [])) p (.lst ([] ++ [(Dc.tab a ks xs).val])) = H1 at s1 h1 ⊢
      refine ⟨a, _, hat'.1.up (s1 _), fun o Hf F => ⟨_, rfl, a, o, _, rfl, F.at_, ?_⟩⟩
      have hpf : Hf p = some (.lst [V.ref a]) := by
        have hpa : p ≠ a := fun z => by
          subst z
          rcases hat'.1 with r | ⟨o, r⟩ <;> rw [r] at hp <;> cases hp
        rw [F.ne p hpa]
        exact h1
      have npa : p ≠ a := fun z => by subst z; rw [F.at_] at hpf; cases hpf
      refine for_dict (fun i σ Hi => ∃ (o2 o3 : Option V) (as : List Addr), σ = [some (.ref a), some (.ref p), o2, o3] ∧ (∀ b u, b ≠ p → Hf b = some u → Hi b = some u) ∧ Hi p = some (.lst (as.map V.ref)) ∧ (∀ b ∈ as, b ∈ (Dc.tab a ks xs).addrs) ∧ as.length ≤ 1 + Dc.sizeL (xs.take i))
        ⟨none, none, [a], rfl, fun b u _ e => e, hpf, fun b hb => by rw [List.mem_singleton.mp hb]; simp [Dc.addrs], by simp⟩ (fun i σ Hi _ ⟨_, _, _, _, s, _⟩ => s a _ (Ne.symm npa) F.at_) ?_ ?_
      · rintro i k v σ Hi hkv ⟨o2, o3, as, rfl, si, hpi, mi, li⟩
        have hi : i < xs.length := by rw [← kl]; exact (List.getElem?_eq_some_iff.mp hkv).1
        obtain ⟨x, hx⟩ : ∃ x, xs[i]? = some x := ⟨_, List.getElem?_eq_getElem hi⟩
        have hm := List.mem_of_getElem? hx
        obtain ⟨nm, hnm⟩ : ∃ nm, ks[i]? = some nm := ⟨_, List.getElem?_eq_getElem (by rw [hat'.2.1]; exact hi)⟩
        have hkx : k = Sum.inr nm ∧ v = x.val := by
          unfold Dc.kvs at hkv
          rw [List.getElem?_map] at hkv
          have e : (ks.zip (xs.map Dc.val))[i]? = some (nm, x.val) := by
            rw [List.getElem?_zip_eq_some]
            exact ⟨hnm, by rw [List.getElem?_map, hx]; rfl⟩
          rw [e] at hkv
          have hkv := Option.some.inj hkv
          exact ⟨(congrArg Prod.fst hkv).symm, (congrArg Prod.snd hkv).symm⟩
        obtain ⟨rfl, rfl⟩ := hkx
        have hv : valV (Dc.kvs ks xs) (Sum.inr nm) = some x.val := by
          have gen : ∀ (kv : List (Key × V)) (i : Nat), (kv.map (·.1)).Nodup → kv[i]? = some (Sum.inr nm, x.val) → valV kv (Sum.inr nm) = some x.val := by
            intro kv
            induction kv with
            | nil => intro i _ h; simp at h
            | cons y r ih =>
              intro i nd h
              rw [List.map_cons] at nd
              obtain ⟨n1, n2⟩ := List.nodup_cons.mp nd
              cases i with
              | zero => simp at h; subst h; exact valV_pos rfl
              | succ i =>
                have h' : r[i]? = some (Sum.inr nm, x.val) := by simpa using h
                rw [valV_neg (fun z => n1 (by rw [z]; exact List.mem_map.mpr ⟨_, List.mem_of_getElem? h', rfl⟩))]
                exact ih i n2 h'
          refine gen _ i ?_ hkv
          rw [Dc.kvs_keys hat'.2.1]
          exact nodup_inr hat'.2.2.1
        have dx := Dc.deepL_mem hm
        have sx := Dc.sizeL_mem hm
        have rdp : ∀ b u, Rd H b u → Rd Hi b u := fun b u r => by
          have hb : b ≠ p := fun z => by
            subst z
            rcases r with r | ⟨o', r⟩ <;> rw [hp] at r <;> cases r
          exact (F.rd b u (s1.r b u r)).up fun o' => si b o' hb
        refine ⟨_, rfl, .inl ⟨rfl, _, SqL.of hpi⟩, _, rfl, _, rfl, a, x.val, rfl, (by rw [← hv]; exact .inl ⟨_, Sum.inr nm, rdp a _ hat'.1, rfl, rfl⟩), x, rfl, Dc.at_read x (fun b _ u r => rdp b u r) (Dc.AtL_mem hat'.2.2.2 x hm), by omega, by omega, fun p2 bs H2 s2 np2 hp2 m2 l2 => ?_⟩
        have l3 := Dc.take_drop_size xs (i + 1)
        have l4 := Dc.sizeL_take_succ hx
        refine ⟨p, p2, _, _, rfl, rfl, s2 _ _ hpi, hp2, le_line (by simp only [List.length_map]; omega), _, _, as ++ bs, rfl, fun b u hb e => by rw [upd_ne hb]; exact s2 _ _ (si b u hb e), ?_, ?_, ?_⟩
        · rw [upd_same, List.map_append]
        · intro b hb
          rcases List.mem_append.mp hb with hb | hb
          · exact mi b hb
          · simp only [Dc.addrs]
            exact List.mem_cons_of_mem _ (Dc.addrsL_mem hm (m2 b hb))
        · rw [List.length_append]; omega
      · rintro σ Hi ⟨o2, o3, as, rfl, si, hpi, mi, li⟩
        refine ⟨si a _ (Ne.symm npa) F.at_, ?_⟩
        refine ⟨_, rfl, q p as _ (fun b u e => ?_) hp ?_ mi ?_⟩
        · have hb : b ≠ p := ne_of_none e hp
          by_cases hba : b = a
          · subst hba
            rw [back_at]
            exact s1 _ _ e
          · rw [back_ne hba]
            exact si b u hb (by rw [F.ne b hba]; exact s1 _ _ e)
        · rw [back_ne npa, hpi]
        · rw [kl, List.take_length] at li
          simp only [Dc.size]
          exact li
theorem all_Holders {f : Addr} {fd : FuncData} (F : Fun K "_law_holders" "_law_holders" sHolders f fd) (T : Txt mg) (b : Binds K fd ["_law_doc_here"] []) (m : mg "_law_holders" = some (.ref f)) : ∀ n : Nat, FnOk P w K mg base CX0 n f fd ["_law_doc_here"] (spHold n)
  | 0 => none0 (fun vs H Q E h => by obtain ⟨d, _, _, h0, _⟩ := h; have := Dc.deep_pos d; omega)
  | n + 1 => ok_Holders F T (Df.mk' F b m (all_Holders F T b m n))
end
end K12

set_option Elab.async false
set_option linter.all false
set_option maxRecDepth 100000
set_option maxHeartbeats 40000000
namespace K12
open PySem L2
section
variable {P : Program} {w : World} {K : PySem.W.Frag} {mg : Str → Option Value} {base : Heap}
theorem scWith : FnScope ["_law_doc_here", "_law_odd_here", "_law_names_here", "_law_cell_here", "_law_told", "_law_holders_here", "_law_holder"] ["_law_doc_here", "_law_odd_here", "_law_names_here", "_law_cell_here"] (defScope sWith) := ⟨rfl, rfl, rfl, by decide +kernel, rfl, by decide +kernel, by decide +kernel⟩
theorem ok_With {f : Addr} {fd : FuncData} (F : Fun K "_law_with" "_law_with" sWith f fd) (T : Txt mg) (DMix : Df P w K mg base "_law_mix" ["_law_cell_here", "_law_k"] 1 spMix) (DLaid : Df P w K mg base "_law_laid" ["_law_holder", "_law_part_here", "_law_names_here", "_law_number"] 1 (spLaidO K)) (DCopy : Df P w K mg base "_law_copy" ["_law_doc_here"] 42 (spCopy 42)) (DHolders : Df P w K mg base "_law_holders" ["_law_doc_here"] 42 (spHold 42)) : FnOk P w K mg base CX0 44 f fd ["_law_doc_here", "_law_odd_here", "_law_names_here", "_law_cell_here"] spWithO := by
  obtain ⟨fMix, dMix, kMix, bMix, mMix, GMix⟩ := DMix.ex
  obtain ⟨fLaid, dLaid, kLaid, bLaid, mLaid, GLaid⟩ := DLaid.ex
  obtain ⟨fCopy, dCopy, kCopy, bCopy, mCopy, GCopy⟩ := DCopy.ex
  obtain ⟨fHolders, dHolders, kHolders, bHolders, mHolders, GHolders⟩ := DHolders.ex
  refine F.ok scWith (fun vs H Q E h => ?_) (fun cdv A outer s H vs Q E hr h => ?_)
  · obtain ⟨d, o, n, c, ys, m, K0, rfl, hat, hok, hsz, tro, hm, hK, hn, q⟩ := h
    rfl
  · obtain ⟨d, o, n, c, ys, m, K0, rfl, hat, hok, hsz, tro, hm, hK, hn, q⟩ := h
    have nd := scWith.nd
    have hu := hu_of hr
    have hrMix : Room 1 _ := hr.mono (by first | decide | omega)
    have hrLaid : Room 1 _ := hr.mono (by first | decide | omega)
    have hrCopy : Room 42 _ := hr.mono (by first | decide | omega)
    have hrHolders : Room 42 _ := hr.mono (by first | decide | omega)
    refine ⟨_, (pss_cons (ps_set (i := 4) nd rfl (Or.inl rfl) (pe_call GCopy hrCopy rfl mCopy kCopy bCopy .nil pass0 (pa_cons (pv 0) pa_nil)))
      (pss_cons (ps_set (i := 5) nd rfl (Or.inl rfl) (pe_call GHolders hrHolders rfl mHolders kHolders bHolders .nil pass0 (pa_cons (pv 4) pa_nil)))
      (pss_cons (ps_if (pt_cmpR (op_eqE (Room.units0 hr)) (pv 5) (pe_lst pa_nil) (nomark _)) (pss_one (ps_ret (pv 1))) pss_nil)
      (pss_cons (ps_set (i := 6) nd rfl (Or.inl rfl) (pe_ix (r := rIxL K) ix_list (pv 5) (pe_op op_mod (pe_call GMix hrMix rfl mMix kMix bMix .nil pass0 (pa_cons (pv 3) (pa_cons pe_int pa_nil))) (pe_callB call_len_seq rfl T.len PySem.boot_len (pa_cons (pv 5) pa_nil))) (fun _ _ => rfl)))
      (pss_cons (ps_if (pt_not (pt_val (pe_call GLaid hrLaid rfl mLaid kLaid bLaid .nil pass0 (pa_cons (pv 6) (pa_cons (pv 1) (pa_cons (pv 2) (pa_cons (pe_call GMix hrMix rfl mMix kMix bMix .nil pass0 (pa_cons (pv 3) (pa_cons pe_int pa_nil))) pa_nil))))))) (pss_one (ps_dput hu (pv 6) (pe_ix (r := rIxL K) ix_list (pv 2) (pe_op op_mod (pe_call GMix hrMix rfl mMix kMix bMix .nil pass0 (pa_cons (pv 3) (pa_cons pe_int pa_nil))) pe_int) (fun _ _ => rfl)) (pv 1) rfl)) pss_nil)
      (pss_one (ps_ret (pv 4)))))))), ?_⟩
    obtain ⟨hn0, l6, nd0, ny⟩ := hn
    have dd : d.deep ≤ 40 := Nat.le_trans (Dc.deep_size d) hsz
    refine ⟨_, rfl, d, rfl, hat, by omega, by omega, fun e H1 fe lk => ?_⟩
    have es := Dc.like_size d e lk
    have eok := Dc.like_ok d e lk hok
    have esl : e.slim := Dc.slim_of e (by omega)
    have ed := Dc.deep_size e
    refine ⟨_, rfl, e, rfl, fe.at_, by omega, by omega, fun p as H2 s2 np hp mem la => ?_⟩
    refine ⟨_, rfl, Nat.zero_le _, fun p0 hp0 => ?_⟩
    have s3 := s2.trans (Same.new (o := .lst []) hp0)
    have hp3 := Same.new (o := .lst []) hp0 _ _ hp
    have h03 : upd H2 p0 (.lst []) p0 = some (.lst []) := upd_same
    generalize upd H2 p0 (.lst []) = H3 at s3 hp3 h03 ⊢
    have f3 : Fresh H H3 e := fe.up s3
    refine ⟨p, p0, _, rfl, rfl, SqL.of hp3, SqL.of h03, _, rfl, ?_⟩
    cases as with
    | nil => exact iteT ⟨_, rfl, q o H3 m K0 f3.same (tro.up f3.same) (by omega) (by omega)⟩
    | cons a0 r =>
      refine iteF ?_
      refine ⟨_, rfl, _, rfl, c, 5, rfl, by decide, fun r5 _ _ => ⟨_, rfl, p, _, rfl, .inl (SqL.of hp3), _, _, rfl, rfl, (by show (0 : Int) < (((a0 :: r).map V.ref).length : Int); simp), ?_⟩⟩
      have m5 := mod_b r5 (n := (((a0 :: r).map V.ref).length : Int)) (by simp)
      obtain ⟨v, hv, mv⟩ := pick_mem (xs := (a0 :: r).map V.ref) m5.1 m5.2
      obtain ⟨b, hb, rfl⟩ := List.mem_map.mp mv
      refine ⟨p, _, _, _, rfl, rfl, SqL.of hp3, hv, ?_⟩
      have hb := mem b hb
      have nb : H b = none := f3.new b hb
      have own := f3.own b hb
      have hn3 := f3.same _ _ hn0
      have cont : (∃ vs, H3 b = some (.lst vs) ∧ vs.length ≤ 1000) ∨ ∃ kv, H3 b = some (.dK kv) ∧ kv.length ≤ 1000 := by
        rcases Dc.holder_at e f3.at_ hb with ⟨vs, r | ⟨o', r⟩, l⟩ | ⟨_, kv, r | ⟨o', r⟩, _, l⟩
        · exact .inl ⟨vs, r, by omega⟩
        · exact absurd r (own _ _)
        · exact .inr ⟨kv, r, by omega⟩
        · exact absurd r (own _ _)
      have fin : ∀ H4, (∀ x u, x ≠ b → H3 x = some u → H4 x = some u) → PutIn H3 H4 b o → Q e.val H4 := fun H4 ch pi => by
        have sH : Same H H4 := fun x u h => ch x u (ne_of_none h nb) (f3.same _ _ h)
        obtain ⟨n', ln', t'⟩ := Dc.putin (tro.up sH) (fun x hx u h => ch x u hx h) pi e eok f3.at_ esl (by omega) f3.nd hb
        exact q e.val H4 n' _ sH t' (by omega) (by omega)
      refine ⟨_, rfl, _, rfl, _, rfl, _, rfl, c, 6, rfl, by decide, fun r6 p6 _ => ⟨b, n, o, ys, r6, rfl, p6, SqL.of hn3, by omega, ny, cont, fun H4 ch la => ⟨_, rfl, iteBF rfl ⟨_, rfl, fin H4 (fun x u hx h => ch x u hx h) la.putIn⟩⟩, fun H4 s4 ⟨kv, hkv⟩ => ⟨_, rfl, iteBT rfl ?_⟩⟩⟩
      have hn4 := s4 _ _ hn3
      refine ⟨_, rfl, _, rfl, _, rfl, _, rfl, c, 6, rfl, by decide, fun r7 _ _ => ⟨_, _, rfl, rfl, (by show (0 : Int) < _; decide), ?_⟩⟩
      have m7 := mod_b r7 (n := 6) (by decide)
      obtain ⟨w7, hw7, mw7⟩ := pick_mem (xs := ys.map V.str) m7.1 (by rw [List.length_map, l6]; exact m7.2)
      obtain ⟨z, hz, rfl⟩ := List.mem_map.mp mw7
      have hb4 := s4 _ _ hkv
      have lkv : kv.length ≤ 1000 := by
        rcases cont with ⟨vs, r, _⟩ | ⟨kv', r, l⟩
        · rw [hkv] at r; cases r
        · rw [hkv] at r; cases r; exact l
      refine ⟨n, _, _, _, rfl, rfl, SqL.of hn4, hw7, b, _, rfl, DPut.k (k := Sum.inr z) hb4 (small1000 lkv), ⟨_, rfl, ?_⟩⟩
      exact fin _ (fun x u hx h => by rw [upd_ne hx]; exact s4 _ _ h) (.tab kv z hkv (ny z hz) upd_same)
end
end K12

set_option Elab.async false
set_option linter.all false
set_option maxRecDepth 100000
set_option maxHeartbeats 40000000
namespace K12
open PySem L2
section
variable {P : Program} {w : World} {K : PySem.W.Frag} {mg : Str → Option Value} {base : Heap}
theorem scWithin : FnScope ["_law_doc_here", "_law_cell_here", "_law_names_here", "_law_k", "_law_way"] ["_law_doc_here", "_law_cell_here", "_law_names_here"] (defScope sWithin) := ⟨rfl, rfl, rfl, by decide +kernel, rfl, by decide +kernel, by decide +kernel⟩
theorem ok_Within {f : Addr} {fd : FuncData} (F : Fun K "_law_within" "_law_within" sWithin f fd) (T : Txt mg) (DMix : Df P w K mg base "_law_mix" ["_law_cell_here", "_law_k"] 1 spMix) : FnOk P w K mg base CX0 2 f fd ["_law_doc_here", "_law_cell_here", "_law_names_here"] spWithin := by
  obtain ⟨fMix, dMix, kMix, bMix, mMix, GMix⟩ := DMix.ex
  refine F.ok scWithin (fun vs H Q E h => ?_) (fun cdv A outer s H vs Q E hr h => ?_)
  · obtain ⟨v, c, n, ys, b, m, K0, rfl, tr, hm, hK, hn, q⟩ := h
    rfl
  · obtain ⟨v, c, n, ys, b, m, K0, rfl, tr, hm, hK, hn, q⟩ := h
    have nd := scWithin.nd
    have hu := hu_of hr
    have hrMix : Room 1 _ := hr.mono (by first | decide | omega)
    refine ⟨_, (pss_cons (ps_for PassesOwn.never rfl (pi_range1 rfl T.range (pa_cons (pe_op op_mul (pe_op op_fdiv (pe_op op_mod (pe_call GMix hrMix rfl mMix kMix bMix .nil pass0 (pa_cons (pv 1) (pa_cons pe_int pa_nil))) pe_int) pe_int) (pe_op op_mod (pe_call GMix hrMix rfl mMix kMix bMix .nil pass0 (pa_cons (pv 1) (pa_cons pe_int pa_nil))) pe_int)) pa_nil)) (pg_name (i := 3) nd rfl (Or.inl rfl)) (pss_cons (ps_set (i := 4) nd rfl (Or.inl rfl) (pe_op op_mod (pe_op op_fdiv (pe_call GMix hrMix rfl mMix kMix bMix .nil pass0 (pa_cons (pv 1) (pa_cons (pe_op op_mod (pv 3) pe_int) pa_nil))) (pe_ix (r := rIxL K) ix_list (pe_lst (pa_cons pe_int (pa_cons pe_int (pa_cons pe_int (pa_cons pe_int (pa_cons pe_int (pa_cons pe_int (pa_cons pe_int (pa_cons pe_int (pa_cons pe_int pa_nil)))))))))) (pe_op op_fdiv (pv 3) pe_int) (fun _ _ => rfl))) pe_int))
      (pss_one (ps_set (i := 0) nd rfl (Or.inl rfl) (pe_ix (r := rIxL K) ix_list (pe_lst (pa_cons (pe_lst (pa_cons (pv 0) pa_nil)) (pa_cons (pe_lst (pa_cons pe_int (pa_cons (pv 0) pa_nil))) (pa_cons (pe_disp (pps_cons (pe_ix (r := rIxL K) ix_list (pv 2) pe_int (fun _ _ => rfl)) (pv 0) pps_nil) rfl rfl (by simp) (by simp)) (pa_cons (pe_disp (pps_cons (pe_ix (r := rIxL K) ix_list (pv 2) pe_int (fun _ _ => rfl)) pe_int (pps_cons (pe_ix (r := rIxL K) ix_list (pv 2) pe_int (fun _ _ => rfl)) (pv 0) pps_nil)) rfl rfl (by simp) (by simp)) pa_nil))))) (pv 4) (fun _ _ => rfl))))))
      (pss_one (ps_ret (pv 0)))), ?_⟩
    obtain ⟨hn0, l6, nd0, ny⟩ := hn
    have get : ∀ j : Nat, j < 6 → ∃ y, atI (ys.map V.str) (j : Int) = some (.str y) ∧ ys[j]? = some y ∧ nameB y = true := fun j hj => ⟨ys[j]'(by omega), atI_nat (by rw [List.getElem?_map, List.getElem?_eq_getElem (by omega)]; rfl), List.getElem?_eq_getElem (by omega), ny _ (List.getElem_mem _)⟩
    obtain ⟨y0, a0, g0, k0⟩ := get 0 (by decide)
    obtain ⟨y1, a1, g1, k1⟩ := get 1 (by decide)
    obtain ⟨y2, a2, g2, k2⟩ := get 2 (by decide)
    have n12 : y1 ≠ y2 := fun z => by
      rw [z, ← g2] at g1
      have := (List.getElem?_inj (by omega) nd0).mp g1
      omega
    refine ⟨_, rfl, c, 9, rfl, by decide, fun r1 p1 _ => ⟨_, _, rfl, rfl, (by show (0 : Int) < _; decide), _, _, rfl, rfl, ⟨by decide, by decide⟩, _, rfl, c, 9, rfl, by decide, fun r2 p2 _ => ⟨_, _, rfl, rfl, (by show (0 : Int) < _; decide), _, _, rfl, rfl, .inr (by have m2 := mod_b r2 (n := 76) (by decide); exact ⟨by show _ < r2 % 76; omega, by show r2 % 76 < _; omega⟩), ?_⟩⟩⟩
    have m1 := mod_b r1 (n := 152) (by decide)
    have m2 := mod_b r2 (n := 76) (by decide)
    obtain ⟨N, hN, lN⟩ : ∃ N : Nat, r1 % 152 / 76 * (r2 % 76) = (N : Int) ∧ N ≤ 75 := by
      have d01 : r1 % 152 / 76 = 0 ∨ r1 % 152 / 76 = 1 := by omega
      rcases d01 with e | e
      · exact ⟨0, by rw [e]; simp, by decide⟩
      · exact ⟨(r2 % 76).toNat, by rw [e, Int.one_mul]; omega, by omega⟩
    rw [hN]
    refine ⟨_, rfl, by omega, by omega, for_range (lo := 0) (n := N) (fun i σ Hi => ∃ (v' : V) (o3 o4 : Option V) (m' : Nat), σ = [some v', some (.int c), some (.ref n), o3, o4] ∧ Same H Hi ∧ Tr Hi b m' (K0 + i + 1) v' ∧ m' ≤ m + 2 * i) ⟨v, none, none, m, rfl, Same.refl H, tr.deeper (by omega), by omega⟩ ?_ ?_⟩
    · rintro i σ Hi hi ⟨v', o3, o4, m', rfl, si, ti, lm⟩
      obtain ⟨j, hj, lj⟩ : ∃ j : Nat, (0 + (i : Int)) % 9 = (j : Int) ∧ j ≤ 1000 := ⟨i % 9, by omega, by omega⟩
      refine ⟨_, rfl, _, rfl, _, _, rfl, rfl, (by show (0 : Int) < _; decide), c, j, (by show [V.int c, V.int ((0 + (i : Int)) % 9)] = _; rw [hj]), lj, fun r3 p3 _ => ⟨le_line (show 9 ≤ 1000 by decide), fun l hl => ?_⟩⟩
      have sl := Same.new (o := .lst [V.int 1, .int 4, .int 16, .int 64, .int 256, .int 1024, .int 4096, .int 16384, .int 65536]) hl
      have fl : upd Hi l (.lst [V.int 1, .int 4, .int 16, .int 64, .int 256, .int 1024, .int 4096, .int 16384, .int 65536]) l = some (.lst [V.int 1, .int 4, .int 16, .int 64, .int 256, .int 1024, .int 4096, .int 16384, .int 65536]) := upd_same
      generalize upd Hi l (.lst [V.int 1, .int 4, .int 16, .int 64, .int 256, .int 1024, .int 4096, .int 16384, .int 65536]) = Ha at sl fl ⊢
      obtain ⟨e, he, me⟩ := pick_mem (xs := [V.int 1, .int 4, .int 16, .int 64, .int 256, .int 1024, .int 4096, .int 16384, .int 65536]) (i := (0 + (i : Int)) / 9) (by omega) (by show _ < (9 : Int); omega)
      obtain ⟨z, rfl, hz⟩ : ∃ z : Int, e = .int z ∧ CDiv r3 z := by
        simp only [List.mem_cons, List.not_mem_nil, or_false] at me
        rcases me with rfl | rfl | rfl | rfl | rfl | rfl | rfl | rfl | rfl <;> exact ⟨_, rfl, by decide, by decide⟩
      refine ⟨_, rfl, _, _, rfl, rfl, ⟨by decide, by decide⟩, l, _, _, _, rfl, rfl, SqL.of fl, he, _, _, rfl, rfl, hz, _, _, rfl, rfl, (by show (0 : Int) < _; decide), ?_⟩
      have mw := mod_b (r3 / z) (n := 4) (by decide)
      have ta := ti.up sl
      have sa := si.trans sl
      have hna := sa _ _ hn0
      refine ⟨_, rfl, one_line, fun b1 hb1 => ?_⟩
      have w1 := Same.new (o := .lst [v']) hb1
      have e1 : upd Ha b1 (.lst [v']) b1 = some (.lst [v']) := upd_same
      generalize upd Ha b1 (.lst [v']) = B1 at w1 e1 ⊢
      refine ⟨_, rfl, two_line, fun b2 hb2 => ?_⟩
      have w2 := Same.new (o := .lst [.int 1, v']) hb2
      have e2 : upd B1 b2 (.lst [.int 1, v']) b2 = some (.lst [.int 1, v']) := upd_same
      generalize upd B1 b2 (.lst [.int 1, v']) = B2 at w2 e2 ⊢
      refine fun b3 hb3 => ⟨_, rfl, n, _, _, _, rfl, rfl, SqL.of (((w1.trans w2).trans (Same.new hb3)) _ _ hna), a0, _, rfl, upd_same, [(Sum.inr y0, v')], rfl, by simp, ?_⟩
      have eb3 : mergeK [] [((Sum.inr y0 : Key), v')] = [(Sum.inr y0, v')] := rfl
      rw [eb3]
      have w3 : Same B2 (upd (upd B2 b3 (.dK [])) b3 (.dK [(Sum.inr y0, v')])) := (Same.new hb3).put hb3
      have e3 : upd (upd B2 b3 (.dK [])) b3 (.dK [(Sum.inr y0, v')]) b3 = some (.dK [(Sum.inr y0, v')]) := upd_same
      generalize upd (upd B2 b3 (.dK [])) b3 (.dK [(Sum.inr y0, v')]) = B3 at w3 e3 ⊢
      have wA := (w1.trans w2).trans w3
      refine fun b4 hb4 => ⟨_, rfl, n, _, _, _, rfl, rfl, SqL.of ((wA.trans (Same.new hb4)) _ _ hna), a1, _, rfl, n, _, _, _, rfl, rfl, SqL.of ((wA.trans (Same.new hb4)) _ _ hna), a2, _, rfl, upd_same, [(Sum.inr y1, .int 0), (Sum.inr y2, v')], rfl, by simp, ?_⟩
      have eb4 : mergeK [] [((Sum.inr y1 : Key), V.int 0), (Sum.inr y2, v')] = [(Sum.inr y1, .int 0), (Sum.inr y2, v')] := mergeK_nodup _ _ (by
        have : (Sum.inr y1 : Key) ≠ Sum.inr y2 := fun z => n12 (Sum.inr.inj z)
        simpa using this)
      rw [eb4]
      have w4 : Same B3 (upd (upd B3 b4 (.dK [])) b4 (.dK [(Sum.inr y1, .int 0), (Sum.inr y2, v')])) := (Same.new hb4).put hb4
      have e4 : upd (upd B3 b4 (.dK [])) b4 (.dK [(Sum.inr y1, .int 0), (Sum.inr y2, v')]) b4 = some (.dK [(Sum.inr y1, .int 0), (Sum.inr y2, v')]) := upd_same
      generalize upd (upd B3 b4 (.dK [])) b4 (.dK [(Sum.inr y1, .int 0), (Sum.inr y2, v')]) = B4 at w4 e4 ⊢
      refine ⟨le_line (show 4 ≤ 1000 by decide), fun L4 hL4 => ?_⟩
      have w5 := Same.new (o := .lst [V.ref b1, .ref b2, .ref b3, .ref b4]) hL4
      have e5 : upd B4 L4 (.lst [V.ref b1, .ref b2, .ref b3, .ref b4]) L4 = some (.lst [V.ref b1, .ref b2, .ref b3, .ref b4]) := upd_same
      generalize upd B4 L4 (.lst [V.ref b1, .ref b2, .ref b3, .ref b4]) = B5 at w5 e5 ⊢
      obtain ⟨u, hu', mu⟩ := pick_mem (xs := [V.ref b1, .ref b2, .ref b3, .ref b4]) mw.1 mw.2
      refine ⟨_, rfl, L4, _, _, _, rfl, rfl, SqL.of e5, hu', ?_⟩
      have x4 := w4.trans w5
      have x3 := w3.trans x4
      have x2 := w2.trans x3
      have x1 := w1.trans x2
      have tB := ta.up x1
      have sB := sa.trans x1
      have leaf : ∀ k : Int, k.natAbs < 2 ^ 400 → Tr B5 true 1 (K0 + i + 1) (.int k) := fun k hk => .node (.leaf (.inl ⟨k, rfl, hk⟩)) .nil
      have next : ∀ m2, Tr B5 b m2 (K0 + (i + 1) + 1) u → m2 ≤ m' + 2 → ∃ (v'' : V) (o3 o4 : Option V) (m'' : Nat), [some u, some (V.int c), some (V.ref n), some (V.int (0 + (i : Int))), some (V.int (r3 / z % 4))] = [some v'', some (.int c), some (.ref n), o3, o4] ∧ Same H B5 ∧ Tr B5 b m'' (K0 + (i + 1) + 1) v'' ∧ m'' ≤ m + 2 * (i + 1) := fun m2 t2 l2 => ⟨u, _, _, m2, rfl, sB, t2, by omega⟩
      simp only [List.mem_cons, List.not_mem_nil, or_false] at mu
      rcases mu with rfl | rfl | rfl | rfl
      · exact next _ (Tr.node (k := K0 + i + 1) (.row (.inl (x2 _ _ e1))) (Trs.one tB)) (by omega)
      · exact next _ ((Tr.node (k := K0 + i + 1) (.row (.inl (x3 _ _ e2))) (Trs.cons (leaf 1 (by decide)) (Trs.one tB))).cast (Bool.true_and b) rfl) (by omega)
      · exact next _ (Tr.node (k := K0 + i + 1) (.tab (ks := [y0]) (.inl (x4 _ _ e3)) rfl (by simp) (fun z hz => by rw [List.mem_singleton.mp hz]; exact k0) (show 1 < 64 by decide)) (Trs.one tB)) (by omega)
      · exact next _ ((Tr.node (k := K0 + i + 1) (.tab (ks := [y1, y2]) (.inl (w5 _ _ e4)) rfl (by simpa using n12) (fun z hz => by
          rcases List.mem_cons.mp hz with rfl | hz
          · exact k1
          · rw [List.mem_singleton.mp hz]; exact k2) (show 2 < 64 by decide)) (Trs.cons (leaf 0 (by decide)) (Trs.one tB))).cast (Bool.true_and b) rfl) (by omega)
    · rintro σ Hi ⟨v', o3, o4, m', rfl, si, ti, lm⟩
      exact ⟨_, rfl, q v' Hi m' _ si ti (by omega) (by omega)⟩
end
end K12

set_option Elab.async false
set_option linter.all false
set_option maxRecDepth 100000
set_option maxHeartbeats 40000000
namespace K12
open PySem L2
section
variable {P : Program} {w : World} {K : PySem.W.Frag} {mg : Str → Option Value} {base : Heap}
theorem scLaw : FnScope ["_law_script", "_law_names_here", "_law_doc_here", "_law_many", "_law_odd_here", "_law_good", "_law_bad", "_law_kept", "_law_k"] ["_law_script"] (defScope sLaw) := ⟨rfl, rfl, rfl, by decide +kernel, rfl, by decide +kernel, by decide +kernel⟩
theorem ok_Law {f : Addr} {fd : FuncData} (F : Fun K "law" "law" sLaw f fd) (T : Txt mg) (DIsDoc : Df P w K mg base "is_doc" ["thing"] 4 spIsDocT) (DCell : Df P w K mg base "_law_cell" ["_law_script", "_law_k"] 1 (spCell K)) (DNames : Df P w K mg base "_law_names" ["_law_one", "_law_two"] 2 spNames) (DDoc : Df P w K mg base "_law_doc" ["_law_script", "_law_start", "_law_names_here"] 4 (spDoc K)) (DOdd : Df P w K mg base "_law_odd" ["_law_cell_here", "_law_names_here"] 2 spOdd) (DWith : Df P w K mg base "_law_with" ["_law_doc_here", "_law_odd_here", "_law_names_here", "_law_cell_here"] 44 spWithO) (DWithin : Df P w K mg base "_law_within" ["_law_doc_here", "_law_cell_here", "_law_names_here"] 2 spWithin) (hrepr : mg "repr" = none) (hSys : ∃ o, K.lookup sysModules = some o) : FnOk P w K mg base CX0 60 f fd ["_law_script"] (spLaw K) := by
  obtain ⟨fIsDoc, dIsDoc, kIsDoc, bIsDoc, mIsDoc, GIsDoc⟩ := DIsDoc.ex
  obtain ⟨fCell, dCell, kCell, bCell, mCell, GCell⟩ := DCell.ex
  obtain ⟨fNames, dNames, kNames, bNames, mNames, GNames⟩ := DNames.ex
  obtain ⟨fDoc, dDoc, kDoc, bDoc, mDoc, GDoc⟩ := DDoc.ex
  obtain ⟨fOdd, dOdd, kOdd, bOdd, mOdd, GOdd⟩ := DOdd.ex
  obtain ⟨fWith, dWith, kWith, bWith, mWith, GWith⟩ := DWith.ex
  obtain ⟨fWithin, dWithin, kWithin, bWithin, mWithin, GWithin⟩ := DWithin.ex
  refine F.ok scLaw (fun vs H Q E h => ?_) (fun cdv A outer s H vs Q E hr h => ?_)
  · obtain ⟨a, ns, rfl, hS, hlen, q⟩ := h
    rfl
  · obtain ⟨a, ns, rfl, hS, hlen, q⟩ := h
    have nd := scLaw.nd
    have hu := hu_of hr
    have hrIsDoc : Room 4 _ := hr.mono (by first | decide | omega)
    have hrCell : Room 1 _ := hr.mono (by first | decide | omega)
    have hrNames : Room 2 _ := hr.mono (by first | decide | omega)
    have hrDoc : Room 4 _ := hr.mono (by first | decide | omega)
    have hrOdd : Room 2 _ := hr.mono (by first | decide | omega)
    have hrWith : Room 44 _ := hr.mono (by first | decide | omega)
    have hrWithin : Room 2 _ := hr.mono (by first | decide | omega)
    refine ⟨_, (pss_cons (ps_set (i := 1) nd rfl (Or.inl rfl) (pe_call GNames hrNames rfl mNames kNames bNames .nil pass0 (pa_cons (pe_call GCell hrCell rfl mCell kCell bCell .nil pass0 (pa_cons (pv 0) (pa_cons pe_int pa_nil))) (pa_cons (pe_call GCell hrCell rfl mCell kCell bCell .nil pass0 (pa_cons (pv 0) (pa_cons pe_int pa_nil))) pa_nil))))
      (pss_cons (ps_asg (pe_call GDoc hrDoc rfl mDoc kDoc bDoc .nil pass0 (pa_cons (pv 0) (pa_cons pe_int (pa_cons (pv 1) pa_nil)))) (pg_tup rfl (pgs_cons (pg_name (i := 2) nd rfl (Or.inl rfl)) (pgs_cons (pg_name (i := 3) nd rfl (Or.inl rfl)) pgs_nil))))
      (pss_cons (ps_set (i := 4) nd rfl (Or.inl rfl) (pe_call GOdd hrOdd rfl mOdd kOdd bOdd .nil pass0 (pa_cons (pe_call GCell hrCell rfl mCell kCell bCell .nil pass0 (pa_cons (pv 0) (pa_cons pe_int pa_nil))) (pa_cons (pv 1) pa_nil))))
      (pss_cons (ps_set (i := 5) nd rfl (Or.inl rfl) (pe_call GWithin hrWithin rfl mWithin kWithin bWithin .nil pass0 (pa_cons (pv 2) (pa_cons (pe_call GCell hrCell rfl mCell kCell bCell .nil pass0 (pa_cons (pv 0) (pa_cons pe_int pa_nil))) (pa_cons (pv 1) pa_nil)))))
      (pss_cons (ps_set (i := 6) nd rfl (Or.inl rfl) (pe_call GWithin hrWithin rfl mWithin kWithin bWithin .nil pass0 (pa_cons (pe_call GWith hrWith rfl mWith kWith bWith .nil pass0 (pa_cons (pv 2) (pa_cons (pv 4) (pa_cons (pv 1) (pa_cons (pe_call GCell hrCell rfl mCell kCell bCell .nil pass0 (pa_cons (pv 0) (pa_cons pe_int pa_nil))) pa_nil))))) (pa_cons (pe_call GCell hrCell rfl mCell kCell bCell .nil pass0 (pa_cons (pv 0) (pa_cons pe_int pa_nil))) (pa_cons (pv 1) pa_nil)))))
      (pss_cons (ps_set (i := 7) nd rfl (Or.inl rfl) (pe_lst (pa_cons (pe_callB (call_reprV hr hSys) rfl hrepr b_repr (pa_cons (pv 5) pa_nil)) (pa_cons (pe_callB (call_reprV hr hSys) rfl hrepr b_repr (pa_cons (pv 6) pa_nil)) (pa_cons (pe_callB (call_reprV hr hSys) rfl hrepr b_repr (pa_cons (pv 4) pa_nil)) pa_nil)))))
      (pss_cons (ps_for PassesOwn.never rfl (pi_range1 rfl T.range (pa_cons pe_int pa_nil)) (pg_name (i := 8) nd rfl (Or.inl rfl)) (pss_one (ps_if (PW.pt (pw_or (pt_cmpR op_isNotB (pe_call GIsDoc hrIsDoc rfl mIsDoc kIsDoc bIsDoc .nil pass0 (pa_cons (pv 5) pa_nil)) pe_bl (nomark _)) (pw_or (pt_cmpR op_isNotB (pe_call GIsDoc hrIsDoc rfl mIsDoc kIsDoc bIsDoc .nil pass0 (pa_cons (pv 6) pa_nil)) pe_bl (nomark _)) (pw_or1 (pt_cmpR op_isNotB (pe_call GIsDoc hrIsDoc rfl mIsDoc kIsDoc bIsDoc .nil pass0 (pa_cons (pv 4) pa_nil)) pe_bl (nomark _)))))) (pss_one (ps_ret pe_bl)) pss_nil)))
      (pss_one (ps_ret (pe_cmpR (op_eqL (Room.units0 hr)) (pe_lst (pa_cons (pe_callB (call_reprV hr hSys) rfl hrepr b_repr (pa_cons (pv 5) pa_nil)) (pa_cons (pe_callB (call_reprV hr hSys) rfl hrepr b_repr (pa_cons (pv 6) pa_nil)) (pa_cons (pe_callB (call_reprV hr hSys) rfl hrepr b_repr (pa_cons (pv 4) pa_nil)) pa_nil)))) (pv 7) (nomark _))))))))))), ?_⟩
    refine ⟨_, rfl, a, ns, 0, rfl, hS, fun c0 _ => ⟨_, rfl, a, ns, 1, rfl, hS, fun c1 _ => ⟨c0, c1, rfl, fun n ys H1 s1 nn hn l6 nd0 ny => ?_⟩⟩⟩
    refine ⟨_, rfl, _, rfl, a, n, ns, 4, ys, rfl, s1.seq hS, hlen, by decide, hn, by omega, ny, fun t d H2 made ht dsz _ => ?_⟩
    refine ⟨t, _, rfl, SqT.of ht, rfl, _, _, rfl, _, _, rfl, rfl, ?_⟩
    have S2 := s1.trans made.same
    have nm2 : Nms H2 n ys := ⟨made.same _ _ hn, l6, nd0, ny⟩
    have dsl : d.slim := Dc.slim_of d (by omega)
    have dtr := Dc.tr d made.ok made.at_ dsl
    have ddp := Dc.deep_size d
    refine ⟨_, rfl, a, ns, 2, rfl, S2.seq hS, fun c2 _ => ⟨_, rfl, c2, n, ys, rfl, nm2, fun o H3 mo Ko s3 tro lmo lKo => ?_⟩⟩
    have S3 := S2.trans s3
    refine ⟨_, rfl, _, rfl, a, ns, 3, rfl, S3.seq hS, fun c3 _ => ⟨_, rfl, d.val, c3, n, ys, true, d.size, d.deep, rfl, dtr.up s3, by omega, by omega, nm2.up s3, fun g H4 mg' Kg s4 trg lg lKg => ?_⟩⟩
    have S4 := S3.trans s4
    have s24 := s3.trans s4
    refine ⟨_, rfl, _, rfl, _, rfl, _, rfl, a, ns, 2, rfl, S4.seq hS, fun c4 _ => ⟨d, o, n, c4, ys, mo, Ko, rfl, Dc.at_same s24 made.at_, made.ok, dsz, tro.up s4, lmo, lKo, nm2.up s24, fun w H5 mw Kw s5 trw lw lKw => ?_⟩⟩
    have S5 := S4.trans s5
    refine ⟨_, rfl, a, ns, 3, rfl, S5.seq hS, fun c5 _ => ⟨_, rfl, w, c5, n, ys, false, mw, Kw, rfl, trw, lw, lKw, nm2.up (s24.trans s5), fun b H6 mb Kb s6 trb lb lKb => ?_⟩⟩
    have s56 := s5.trans s6
    have s46 := s4.trans s56
    have tg6 := trg.up s56
    have to6 := tro.up s46
    obtain ⟨Dg, g1, g2, g3, g4⟩ := tg6.shows (by omega) (by omega)
    obtain ⟨Db, b1, b2, b3, b4⟩ := trb.shows (by omega) (by omega)
    obtain ⟨Do, o1, o2, o3, o4⟩ := to6.shows (by omega) (by omega)
    refine ⟨_, rfl, g, Dg, rfl, g1, g2, g3, g4, _, rfl, b, Db, rfl, b1, b2, b3, b4, _, rfl, o, Do, rfl, o1, o2, o3, o4, le_line (show 3 ≤ 1000 by decide), fun L hL => ?_⟩
    have s7 := Same.new (o := .lst [.str Dg.shown, .str Db.shown, .str Do.shown]) hL
    have fL : upd H6 L (.lst [.str Dg.shown, .str Db.shown, .str Do.shown]) L = some (.lst [.str Dg.shown, .str Db.shown, .str Do.shown]) := upd_same
    generalize upd H6 L (.lst [.str Dg.shown, .str Db.shown, .str Do.shown]) = H7 at s7 fL ⊢
    refine ⟨2, rfl, by decide, by decide, for_range (lo := 0) (n := 2) (fun i σ Hi => ∃ o8 : Option V, σ = [some (.ref a), some (.ref n), some d.val, some (.int (d.size : Int)), some o, some g, some b, some (.ref L), o8] ∧ Same H7 Hi) ⟨_, rfl, Same.refl _⟩ ?_ ?_⟩
    · rintro i σ Hi hi ⟨o8, rfl, si⟩
      have s6i := s7.trans si
      refine ⟨_, rfl, g, true, _, _, rfl, tg6.up s6i, by omega, fun Ha sa => ⟨_, _, rfl, rfl, _, rfl, iteBF rfl ?_⟩⟩
      refine ⟨_, rfl, b, false, _, _, rfl, trb.up (s6i.trans sa), by omega, fun Hb sb => ⟨_, _, rfl, rfl, _, rfl, iteBF rfl ?_⟩⟩
      refine ⟨_, rfl, o, false, _, _, rfl, to6.up ((s6i.trans sa).trans sb), by omega, fun Hc sc => ⟨_, _, rfl, rfl, _, rfl, iteBF rfl ?_⟩⟩
      exact ⟨_, rfl, ((si.trans sa).trans sb).trans sc⟩
    · rintro σ Hi ⟨o8, rfl, si⟩
      have s6i := s7.trans si
      refine ⟨_, rfl, g, Dg, rfl, g1.up s6i, g2, g3, g4, _, rfl, b, Db, rfl, b1.up s6i, b2, b3, b4, _, rfl, o, Do, rfl, o1.up s6i, o2, o3, o4, le_line (show 3 ≤ 1000 by decide), fun L2 hL2 => ?_⟩
      refine ⟨_, rfl, L2, L, _, _, rfl, rfl, SqL.of upd_same, SqL.of (Same.new hL2 _ _ (si _ _ fL)), ?_, ?_, ?_⟩
      · intro z hz
        simp only [List.mem_cons, List.not_mem_nil, or_false] at hz
        rcases hz with rfl | rfl | rfl <;> rfl
      · intro z hz
        simp only [List.mem_cons, List.not_mem_nil, or_false] at hz
        rcases hz with rfl | rfl | rfl <;> rfl
      · have e : eqTs [V.str Dg.shown, .str Db.shown, .str Do.shown] [V.str Dg.shown, .str Db.shown, .str Do.shown] = true := eqTs_self (by
          intro z hz
          simp only [List.mem_cons, List.not_mem_nil, or_false] at hz
          rcases hz with rfl | rfl | rfl <;> rfl)
        show Q (.bl (eqTs _ _)) _
        rw [e]
        exact q _
end
end K12

set_option Elab.async false
set_option linter.all false
set_option maxRecDepth 100000
set_option maxHeartbeats 40000000
namespace K12
open PySem L2
theorem len_1 (us : List Value) (h : us.length = 1) : ∃ x0, us = [x0] := by
  rcases us with _ | ⟨x0, us⟩ <;> simp only [List.length_cons, List.length_nil] at h <;> try omega
  rcases us with _ | ⟨y, us⟩ <;> simp only [List.length_cons, List.length_nil] at h <;> try omega
  exact ⟨x0, rfl⟩
theorem len_2 (us : List Value) (h : us.length = 2) : ∃ x0 x1, us = [x0, x1] := by
  rcases us with _ | ⟨x0, us⟩ <;> simp only [List.length_cons, List.length_nil] at h <;> try omega
  rcases us with _ | ⟨x1, us⟩ <;> simp only [List.length_cons, List.length_nil] at h <;> try omega
  rcases us with _ | ⟨y, us⟩ <;> simp only [List.length_cons, List.length_nil] at h <;> try omega
  exact ⟨x0, x1, rfl⟩
theorem len_3 (us : List Value) (h : us.length = 3) : ∃ x0 x1 x2, us = [x0, x1, x2] := by
  rcases us with _ | ⟨x0, us⟩ <;> simp only [List.length_cons, List.length_nil] at h <;> try omega
  rcases us with _ | ⟨x1, us⟩ <;> simp only [List.length_cons, List.length_nil] at h <;> try omega
  rcases us with _ | ⟨x2, us⟩ <;> simp only [List.length_cons, List.length_nil] at h <;> try omega
  rcases us with _ | ⟨y, us⟩ <;> simp only [List.length_cons, List.length_nil] at h <;> try omega
  exact ⟨x0, x1, x2, rfl⟩
theorem len_4 (us : List Value) (h : us.length = 4) : ∃ x0 x1 x2 x3, us = [x0, x1, x2, x3] := by
  rcases us with _ | ⟨x0, us⟩ <;> simp only [List.length_cons, List.length_nil] at h <;> try omega
  rcases us with _ | ⟨x1, us⟩ <;> simp only [List.length_cons, List.length_nil] at h <;> try omega
  rcases us with _ | ⟨x2, us⟩ <;> simp only [List.length_cons, List.length_nil] at h <;> try omega
  rcases us with _ | ⟨x3, us⟩ <;> simp only [List.length_cons, List.length_nil] at h <;> try omega
  rcases us with _ | ⟨y, us⟩ <;> simp only [List.length_cons, List.length_nil] at h <;> try omega
  exact ⟨x0, x1, x2, x3, rfl⟩
theorem all_mk {l : PySem.W.OpenLaw} {w : World} {K : PySem.W.Frag} {h : Heap} {mg : Str → Option Value} {fa f1 f2 f3 f4 f5 f6 f7 f8 f9 f10 f11 f12 f13 f14 f15 f16 f17 f18 f19 f20 : Addr} (X : K.In h) (G : h.Ns mainGlobals mg) (hfa : mg "law" = some (.ref fa))
    {od1 an1 od2 an2 od3 an3 od4 an4 od5 an5 od6 an6 od7 an7 od8 an8 od9 an9 od10 an10 od11 an11 od12 an12 od13 an13 od14 an14 od15 an15 od16 an16 od17 an17 od18 an18 od19 an19 od20 an20 : Option Addr} {sl1 sl2 sl3 sl4 sl5 sl6 sl7 sl8 sl9 sl10 sl11 sl12 sl13 sl14 sl15 sl16 sl17 sl18 sl19 sl20 : Array (Option Value)} {oc1 kV1 dc1 pm1 cd1 ct1 oc2 kV2 dc2 pm2 cd2 ct2 oc3 kV3 dc3 pm3 cd3 ct3 oc4 kV4 dc4 pm4 cd4 ct4 oc5 kV5 dc5 pm5 cd5 ct5 oc6 kV6 dc6 pm6 cd6 ct6 oc7 kV7 dc7 pm7 cd7 ct7 oc8 kV8 dc8 pm8 cd8 ct8 oc9 kV9 dc9 pm9 cd9 ct9 oc10 kV10 dc10 pm10 cd10 ct10 oc11 kV11 dc11 pm11 cd11 ct11 oc12 kV12 dc12 pm12 cd12 ct12 oc13 kV13 dc13 pm13 cd13 ct13 oc14 kV14 dc14 pm14 cd14 ct14 oc15 kV15 dc15 pm15 cd15 ct15 oc16 kV16 dc16 pm16 cd16 ct16 oc17 kV17 dc17 pm17 cd17 ct17 oc18 kV18 dc18 pm18 cd18 ct18 oc19 kV19 dc19 pm19 cd19 ct19 oc20 kV20 dc20 pm20 cd20 ct20 : Value}
    {tk1 tk2 tk3 : Tok}
    (a1 : PySem.W.nsIn K mainGlobals "is_whole" = some (some (.ref f1))) (l1 : K.lookup f1 = some ⟨oc1, od1, .func (PySem.W.fnOf "is_whole" "is_whole" (defArgs sIsWhole) (defBody sIsWhole) (defScope sIsWhole) .none kV1 dc1 pm1 an1 cd1 ct1), sl1⟩) (c1 : PySem.W.codeIn K cd1 "is_whole" = true) (k1 : PySem.W.keepIn K (.ref f1) = true)
    (a2 : PySem.W.nsIn K mainGlobals "has_letters_alone" = some (some (.ref f2))) (l2 : K.lookup f2 = some ⟨oc2, od2, .func (PySem.W.fnOf "has_letters_alone" "has_letters_alone" (defArgs sHasLettersAlone) (defBody sHasLettersAlone) (defScope sHasLettersAlone) .none kV2 dc2 pm2 an2 cd2 ct2), sl2⟩) (c2 : PySem.W.codeIn K cd2 "has_letters_alone" = true) (k2 : PySem.W.keepIn K (.ref f2) = true)
    (a3 : PySem.W.nsIn K mainGlobals "is_name" = some (some (.ref f3))) (l3 : K.lookup f3 = some ⟨oc3, od3, .func (PySem.W.fnOf "is_name" "is_name" (defArgs sIsName) (defBody sIsName) (defScope sIsName) .none kV3 dc3 pm3 an3 cd3 ct3), sl3⟩) (c3 : PySem.W.codeIn K cd3 "is_name" = true) (k3 : PySem.W.keepIn K (.ref f3) = true)
    (a4 : PySem.W.nsIn K mainGlobals "is_sound" = some (some (.ref f4))) (l4 : K.lookup f4 = some ⟨oc4, od4, .func (PySem.W.fnOf "is_sound" "is_sound" (defArgs sIsSound) (defBody sIsSound) (defScope sIsSound) .none kV4 dc4 pm4 an4 cd4 ct4), sl4⟩) (c4 : PySem.W.codeIn K cd4 "is_sound" = true) (k4 : PySem.W.keepIn K (.ref f4) = true)
    (a5 : PySem.W.nsIn K mainGlobals "is_doc" = some (some (.ref f5))) (l5 : K.lookup f5 = some ⟨oc5, od5, .func (PySem.W.fnOf "is_doc" "is_doc" (defArgs sIsDoc) (defBody sIsDoc) (defScope sIsDoc) .none kV5 dc5 pm5 an5 cd5 ct5), sl5⟩) (c5 : PySem.W.codeIn K cd5 "is_doc" = true) (k5 : PySem.W.keepIn K (.ref f5) = true)
    (a6 : PySem.W.nsIn K mainGlobals "steps_of" = some (some (.ref f6))) (l6 : K.lookup f6 = some ⟨oc6, od6, .func (PySem.W.fnOf "steps_of" "steps_of" (defArgs sStepsOf) (defBody sStepsOf) (defScope sStepsOf) .none kV6 dc6 pm6 an6 cd6 ct6), sl6⟩) (c6 : PySem.W.codeIn K cd6 "steps_of" = true) (k6 : PySem.W.keepIn K (.ref f6) = true)
    (a7 : PySem.W.nsIn K mainGlobals "inner_of" = some (some (.ref f7))) (l7 : K.lookup f7 = some ⟨oc7, od7, .func (PySem.W.fnOf "inner_of" "inner_of" (defArgs sInnerOf) (defBody sInnerOf) (defScope sInnerOf) .none kV7 dc7 pm7 an7 cd7 ct7), sl7⟩) (c7 : PySem.W.codeIn K cd7 "inner_of" = true) (k7 : PySem.W.keepIn K (.ref f7) = true)
    (a8 : PySem.W.nsIn K mainGlobals "_law_cell" = some (some (.ref f8))) (l8 : K.lookup f8 = some ⟨oc8, od8, .func (PySem.W.fnOf "_law_cell" "_law_cell" (defArgs sCell) (defBody sCell) (defScope sCell) .none kV8 dc8 pm8 an8 cd8 ct8), sl8⟩) (c8 : PySem.W.codeIn K cd8 "_law_cell" = true) (k8 : PySem.W.keepIn K (.ref f8) = true)
    (a9 : PySem.W.nsIn K mainGlobals "_law_mix" = some (some (.ref f9))) (l9 : K.lookup f9 = some ⟨oc9, od9, .func (PySem.W.fnOf "_law_mix" "_law_mix" (defArgs sMix) (defBody sMix) (defScope sMix) .none kV9 dc9 pm9 an9 cd9 ct9), sl9⟩) (c9 : PySem.W.codeIn K cd9 "_law_mix" = true) (k9 : PySem.W.keepIn K (.ref f9) = true)
    (a10 : PySem.W.nsIn K mainGlobals "_law_names" = some (some (.ref f10))) (l10 : K.lookup f10 = some ⟨oc10, od10, .func (PySem.W.fnOf "_law_names" "_law_names" (defArgs sNames) (defBody sNames) (defScope sNames) .none kV10 dc10 pm10 an10 cd10 ct10), sl10⟩) (c10 : PySem.W.codeIn K cd10 "_law_names" = true) (k10 : PySem.W.keepIn K (.ref f10) = true)
    (a11 : PySem.W.nsIn K mainGlobals "_law_leaf" = some (some (.ref f11))) (l11 : K.lookup f11 = some ⟨oc11, od11, .func (PySem.W.fnOf "_law_leaf" "_law_leaf" (defArgs sLeaf) (defBody sLeaf) (defScope sLeaf) .none kV11 dc11 pm11 an11 cd11 ct11), sl11⟩) (c11 : PySem.W.codeIn K cd11 "_law_leaf" = true) (k11 : PySem.W.keepIn K (.ref f11) = true)
    (a12 : PySem.W.nsIn K mainGlobals "_law_part" = some (some (.ref f12))) (l12 : K.lookup f12 = some ⟨oc12, od12, .func (PySem.W.fnOf "_law_part" "_law_part" (defArgs sPart) (defBody sPart) (defScope sPart) .none kV12 dc12 pm12 an12 cd12 ct12), sl12⟩) (c12 : PySem.W.codeIn K cd12 "_law_part" = true) (k12 : PySem.W.keepIn K (.ref f12) = true)
    (a13 : PySem.W.nsIn K mainGlobals "_law_laid" = some (some (.ref f13))) (l13 : K.lookup f13 = some ⟨oc13, od13, .func (PySem.W.fnOf "_law_laid" "_law_laid" (defArgs sLaid) (defBody sLaid) (defScope sLaid) .none kV13 dc13 pm13 an13 cd13 ct13), sl13⟩) (c13 : PySem.W.codeIn K cd13 "_law_laid" = true) (k13 : PySem.W.keepIn K (.ref f13) = true)
    (a14 : PySem.W.nsIn K mainGlobals "_law_doc" = some (some (.ref f14))) (l14 : K.lookup f14 = some ⟨oc14, od14, .func (PySem.W.fnOf "_law_doc" "_law_doc" (defArgs sDoc) (defBody sDoc) (defScope sDoc) .none kV14 dc14 pm14 an14 cd14 ct14), sl14⟩) (c14 : PySem.W.codeIn K cd14 "_law_doc" = true) (k14 : PySem.W.keepIn K (.ref f14) = true)
    (a15 : PySem.W.nsIn K mainGlobals "_law_copy" = some (some (.ref f15))) (l15 : K.lookup f15 = some ⟨oc15, od15, .func (PySem.W.fnOf "_law_copy" "_law_copy" (defArgs sCopy) (defBody sCopy) (defScope sCopy) .none kV15 dc15 pm15 an15 cd15 ct15), sl15⟩) (c15 : PySem.W.codeIn K cd15 "_law_copy" = true) (k15 : PySem.W.keepIn K (.ref f15) = true)
    (a16 : PySem.W.nsIn K mainGlobals "_law_odd" = some (some (.ref f16))) (l16 : K.lookup f16 = some ⟨oc16, od16, .func (PySem.W.fnOf "_law_odd" "_law_odd" (defArgs sOdd) (defBody sOdd) (defScope sOdd) .none kV16 dc16 pm16 an16 cd16 ct16), sl16⟩) (c16 : PySem.W.codeIn K cd16 "_law_odd" = true) (k16 : PySem.W.keepIn K (.ref f16) = true)
    (a17 : PySem.W.nsIn K mainGlobals "_law_holders" = some (some (.ref f17))) (l17 : K.lookup f17 = some ⟨oc17, od17, .func (PySem.W.fnOf "_law_holders" "_law_holders" (defArgs sHolders) (defBody sHolders) (defScope sHolders) .none kV17 dc17 pm17 an17 cd17 ct17), sl17⟩) (c17 : PySem.W.codeIn K cd17 "_law_holders" = true) (k17 : PySem.W.keepIn K (.ref f17) = true)
    (a18 : PySem.W.nsIn K mainGlobals "_law_with" = some (some (.ref f18))) (l18 : K.lookup f18 = some ⟨oc18, od18, .func (PySem.W.fnOf "_law_with" "_law_with" (defArgs sWith) (defBody sWith) (defScope sWith) .none kV18 dc18 pm18 an18 cd18 ct18), sl18⟩) (c18 : PySem.W.codeIn K cd18 "_law_with" = true) (k18 : PySem.W.keepIn K (.ref f18) = true)
    (a19 : PySem.W.nsIn K mainGlobals "_law_within" = some (some (.ref f19))) (l19 : K.lookup f19 = some ⟨oc19, od19, .func (PySem.W.fnOf "_law_within" "_law_within" (defArgs sWithin) (defBody sWithin) (defScope sWithin) .none kV19 dc19 pm19 an19 cd19 ct19), sl19⟩) (c19 : PySem.W.codeIn K cd19 "_law_within" = true) (k19 : PySem.W.keepIn K (.ref f19) = true)
    (a20 : PySem.W.nsIn K mainGlobals "law" = some (some (.ref f20))) (l20 : K.lookup f20 = some ⟨oc20, od20, .func (PySem.W.fnOf "law" "law" (defArgs sLaw) (defBody sLaw) (defScope sLaw) .none kV20 dc20 pm20 an20 cd20 ct20), sl20⟩) (c20 : PySem.W.codeIn K cd20 "law" = true) (k20 : PySem.W.keepIn K (.ref f20) = true)
    (z1 : PySem.W.nsIn K mainGlobals "isinstance" = some none)
    (z2 : PySem.W.nsIn K mainGlobals "int" = some none)
    (z3 : PySem.W.nsIn K mainGlobals "bool" = some none)
    (z4 : PySem.W.nsIn K mainGlobals "str" = some none)
    (z5 : PySem.W.nsIn K mainGlobals "list" = some none)
    (z6 : PySem.W.nsIn K mainGlobals "dict" = some none)
    (z7 : PySem.W.nsIn K mainGlobals "tuple" = some none)
    (z8 : PySem.W.nsIn K mainGlobals "len" = some none)
    (z9 : PySem.W.nsIn K mainGlobals "range" = some none)
    (z10 : PySem.W.nsIn K mainGlobals "max" = some none)
    (z11 : PySem.W.nsIn K mainGlobals "min" = some none)
    (z12 : PySem.W.nsIn K mainGlobals "sorted" = some none)
    (z13 : PySem.W.nsIn K mainGlobals "all" = some none)
    (z14 : PySem.W.nsIn K mainGlobals "any" = some none)
    (z15 : PySem.W.nsIn K mainGlobals "reversed" = some none)
    (z16 : PySem.W.nsIn K mainGlobals "ValueError" = some none)
    (z17 : PySem.W.nsIn K mainGlobals "sum" = some none)
    (e1 : PySem.W.nsIn K mainGlobals "LETTERS" = some (some (.str "abcdefghijklmnopqrstuvwxyz" tk1)))
    (e2 : PySem.W.nsIn K mainGlobals "LONGEST_NAME" = some (some (.int 8 tk2)))
    (e3 : PySem.W.nsIn K mainGlobals "LONGEST_TEXT" = some (some (.int 12 tk3)))
    {oS : Obj}
    (zR : PySem.W.nsIn K mainGlobals "repr" = some none)
    (zS : K.lookup sysModules = some oS)
    : ∃ fd : FuncData, (∀ (s : Shared) (v : Value), BindsTo s fd ⟨[v], []⟩ [("_law_script", v)]) ∧ ∀ base : Heap, K.In base → base.Ns mainGlobals mg → FnOk l.prog w K mg base CX0 60 fa fd ["_law_script"] (spLaw K) := by
  have e := hfa.symm.trans (PySem.W.mg_of X G a20)
  cases e
  have T : Txt mg := ⟨PySem.W.mg_none_of X G z1, PySem.W.mg_none_of X G z2, PySem.W.mg_none_of X G z3, PySem.W.mg_none_of X G z4, PySem.W.mg_none_of X G z5, PySem.W.mg_none_of X G z6, PySem.W.mg_none_of X G z7, PySem.W.mg_none_of X G z8, PySem.W.mg_none_of X G z9, PySem.W.mg_none_of X G z10, PySem.W.mg_none_of X G z11, PySem.W.mg_none_of X G z12, PySem.W.mg_none_of X G z13, PySem.W.mg_none_of X G z14, PySem.W.mg_none_of X G z15, PySem.W.mg_none_of X G z16, PySem.W.mg_none_of X G z17⟩
  have F1 := fun_mk (st := sIsWhole) l1 c1 k1
  have b1 := F1.binds (ps := ["thing"]) fun _ _ _ _ _ _ us hl => by obtain ⟨x0, rfl⟩ := len_1 us hl; rfl
  have m1 := PySem.W.mg_of X G a1
  have F2 := fun_mk (st := sHasLettersAlone) l2 c2 k2
  have b2 := F2.binds (ps := ["text"]) fun _ _ _ _ _ _ us hl => by obtain ⟨x0, rfl⟩ := len_1 us hl; rfl
  have m2 := PySem.W.mg_of X G a2
  have F3 := fun_mk (st := sIsName) l3 c3 k3
  have b3 := F3.binds (ps := ["thing"]) fun _ _ _ _ _ _ us hl => by obtain ⟨x0, rfl⟩ := len_1 us hl; rfl
  have m3 := PySem.W.mg_of X G a3
  have F4 := fun_mk (st := sIsSound) l4 c4 k4
  have b4 := F4.binds (ps := ["thing"]) fun _ _ _ _ _ _ us hl => by obtain ⟨x0, rfl⟩ := len_1 us hl; rfl
  have m4 := PySem.W.mg_of X G a4
  have F5 := fun_mk (st := sIsDoc) l5 c5 k5
  have b5 := F5.binds (ps := ["thing"]) fun _ _ _ _ _ _ us hl => by obtain ⟨x0, rfl⟩ := len_1 us hl; rfl
  have m5 := PySem.W.mg_of X G a5
  have F6 := fun_mk (st := sStepsOf) l6 c6 k6
  have b6 := F6.binds (ps := ["doc"]) fun _ _ _ _ _ _ us hl => by obtain ⟨x0, rfl⟩ := len_1 us hl; rfl
  have m6 := PySem.W.mg_of X G a6
  have F7 := fun_mk (st := sInnerOf) l7 c7 k7
  have b7 := F7.binds (ps := ["doc"]) fun _ _ _ _ _ _ us hl => by obtain ⟨x0, rfl⟩ := len_1 us hl; rfl
  have m7 := PySem.W.mg_of X G a7
  have F8 := fun_mk (st := sCell) l8 c8 k8
  have b8 := F8.binds (ps := ["_law_script", "_law_k"]) fun _ _ _ _ _ _ us hl => by obtain ⟨x0, x1, rfl⟩ := len_2 us hl; rfl
  have m8 := PySem.W.mg_of X G a8
  have F9 := fun_mk (st := sMix) l9 c9 k9
  have b9 := F9.binds (ps := ["_law_cell_here", "_law_k"]) fun _ _ _ _ _ _ us hl => by obtain ⟨x0, x1, rfl⟩ := len_2 us hl; rfl
  have m9 := PySem.W.mg_of X G a9
  have F10 := fun_mk (st := sNames) l10 c10 k10
  have b10 := F10.binds (ps := ["_law_one", "_law_two"]) fun _ _ _ _ _ _ us hl => by obtain ⟨x0, x1, rfl⟩ := len_2 us hl; rfl
  have m10 := PySem.W.mg_of X G a10
  have F11 := fun_mk (st := sLeaf) l11 c11 k11
  have b11 := F11.binds (ps := ["_law_cell_here"]) fun _ _ _ _ _ _ us hl => by obtain ⟨x0, rfl⟩ := len_1 us hl; rfl
  have m11 := PySem.W.mg_of X G a11
  have F12 := fun_mk (st := sPart) l12 c12 k12
  have b12 := F12.binds (ps := ["_law_cell_here", "_law_deep", "_law_most"]) fun _ _ _ _ _ _ us hl => by obtain ⟨x0, x1, x2, rfl⟩ := len_3 us hl; rfl
  have m12 := PySem.W.mg_of X G a12
  have F13 := fun_mk (st := sLaid) l13 c13 k13
  have b13 := F13.binds (ps := ["_law_holder", "_law_part_here", "_law_names_here", "_law_number"]) fun _ _ _ _ _ _ us hl => by obtain ⟨x0, x1, x2, x3, rfl⟩ := len_4 us hl; rfl
  have m13 := PySem.W.mg_of X G a13
  have F14 := fun_mk (st := sDoc) l14 c14 k14
  have b14 := F14.binds (ps := ["_law_script", "_law_start", "_law_names_here"]) fun _ _ _ _ _ _ us hl => by obtain ⟨x0, x1, x2, rfl⟩ := len_3 us hl; rfl
  have m14 := PySem.W.mg_of X G a14
  have F15 := fun_mk (st := sCopy) l15 c15 k15
  have b15 := F15.binds (ps := ["_law_doc_here"]) fun _ _ _ _ _ _ us hl => by obtain ⟨x0, rfl⟩ := len_1 us hl; rfl
  have m15 := PySem.W.mg_of X G a15
  have F16 := fun_mk (st := sOdd) l16 c16 k16
  have b16 := F16.binds (ps := ["_law_cell_here", "_law_names_here"]) fun _ _ _ _ _ _ us hl => by obtain ⟨x0, x1, rfl⟩ := len_2 us hl; rfl
  have m16 := PySem.W.mg_of X G a16
  have F17 := fun_mk (st := sHolders) l17 c17 k17
  have b17 := F17.binds (ps := ["_law_doc_here"]) fun _ _ _ _ _ _ us hl => by obtain ⟨x0, rfl⟩ := len_1 us hl; rfl
  have m17 := PySem.W.mg_of X G a17
  have F18 := fun_mk (st := sWith) l18 c18 k18
  have b18 := F18.binds (ps := ["_law_doc_here", "_law_odd_here", "_law_names_here", "_law_cell_here"]) fun _ _ _ _ _ _ us hl => by obtain ⟨x0, x1, x2, x3, rfl⟩ := len_4 us hl; rfl
  have m18 := PySem.W.mg_of X G a18
  have F19 := fun_mk (st := sWithin) l19 c19 k19
  have b19 := F19.binds (ps := ["_law_doc_here", "_law_cell_here", "_law_names_here"]) fun _ _ _ _ _ _ us hl => by obtain ⟨x0, x1, x2, rfl⟩ := len_3 us hl; rfl
  have m19 := PySem.W.mg_of X G a19
  have F20 := fun_mk (st := sLaw) l20 c20 k20
  have q_LETTERS := PySem.W.mg_of X G e1
  have q_LONGEST_NAME := PySem.W.mg_of X G e2
  have q_LONGEST_TEXT := PySem.W.mg_of X G e3
  have hrepr := PySem.W.mg_none_of X G zR
  have hSys : ∃ o, K.lookup sysModules = some o := ⟨_, zS⟩
  refine ⟨PySem.W.fnOf "law" "law" (defArgs sLaw) (defBody sLaw) (defScope sLaw) .none kV20 dc20 pm20 an20 cd20 ct20, fun s v => .of_eq rfl, fun base _ _ => ?_⟩
  have DIsWhole0 : Df l.prog w K mg base "is_whole" ["thing"] 1 spWhole := Df.mk' F1 b1 m1 (ok_IsWhole F1 T)
  have DHasLettersAlone1 : Df l.prog w K mg base "has_letters_alone" ["text"] 1 spLetters := Df.mk' F2 b2 m2 (ok_HasLettersAlone F2 T ⟨_, q_LETTERS⟩)
  have DIsName2 : Df l.prog w K mg base "is_name" ["thing"] 2 spName := Df.mk' F3 b3 m3 (ok_IsName F3 T DHasLettersAlone1 ⟨_, q_LONGEST_NAME⟩)
  have DIsSound0 : Df l.prog w K mg base "is_sound" ["thing"] 3 spSoundN := Df.mk' F4 b4 m4 (ok_IsSound F4 T DIsWhole0 DHasLettersAlone1 DIsName2 ⟨_, q_LONGEST_TEXT⟩)
  have DStepsOf4 : Df l.prog w K mg base "steps_of" ["doc"] 1 spStepsN := Df.mk' F6 b6 m6 (ok_StepsOf F6 T)
  have DInnerOf4 : Df l.prog w K mg base "inner_of" ["doc"] 2 spInnerN := Df.mk' F7 b7 m7 (ok_InnerOf F7 T DStepsOf4)
  have DIsDoc0 : Df l.prog w K mg base "is_doc" ["thing"] 4 spIsDocT := Df.mk' F5 b5 m5 (ok_IsDoc F5 T DIsSound0 DInnerOf4)
  have DCell7 : Df l.prog w K mg base "_law_cell" ["_law_script", "_law_k"] 1 (spCell K) := Df.mk' F8 b8 m8 (ok_Cell F8 T)
  have DMix8 : Df l.prog w K mg base "_law_mix" ["_law_cell_here", "_law_k"] 1 spMixF := Df.mk' F9 b9 m9 (ok_Mix F9 T)
  have DNames8 : Df l.prog w K mg base "_law_names" ["_law_one", "_law_two"] 2 spNames := Df.mk' F10 b10 m10 (ok_Names F10 T DMix8)
  have DMix10 : Df l.prog w K mg base "_law_mix" ["_law_cell_here", "_law_k"] 1 spMix := Df.mk' F9 b9 m9 (okW_Mix F9 T)
  have DLeaf11 : Df l.prog w K mg base "_law_leaf" ["_law_cell_here"] 2 spLeaf := Df.mk' F11 b11 m11 (ok_Leaf F11 T DMix10)
  have DPart11 : Df l.prog w K mg base "_law_part" ["_law_cell_here", "_law_deep", "_law_most"] 3 spPart := Df.mk' F12 b12 m12 (ok_Part F12 T DMix10 DLeaf11)
  have DLaid13 : Df l.prog w K mg base "_law_laid" ["_law_holder", "_law_part_here", "_law_names_here", "_law_number"] 1 (spLaid K) := Df.mk' F13 b13 m13 (okW_Laid F13 T)
  have DDoc10 : Df l.prog w K mg base "_law_doc" ["_law_script", "_law_start", "_law_names_here"] 4 (spDoc K) := Df.mk' F14 b14 m14 (ok_Doc F14 T DCell7 DMix10 DPart11 DLaid13)
  have DOdd15 : Df l.prog w K mg base "_law_odd" ["_law_cell_here", "_law_names_here"] 2 spOdd := Df.mk' F16 b16 m16 (ok_Odd F16 T DMix10)
  have DLaid16 : Df l.prog w K mg base "_law_laid" ["_law_holder", "_law_part_here", "_law_names_here", "_law_number"] 1 (spLaidO K) := Df.mk' F13 b13 m13 (ok_Laid F13 T)
  have DCopy17 : Df l.prog w K mg base "_law_copy" ["_law_doc_here"] 42 (spCopy 42) := Df.mk' F15 b15 m15 (all_Copy F15 T b15 m15 42)
  have DHolders18 : Df l.prog w K mg base "_law_holders" ["_law_doc_here"] 42 (spHold 42) := Df.mk' F17 b17 m17 (all_Holders F17 T b17 m17 42)
  have DWith16 : Df l.prog w K mg base "_law_with" ["_law_doc_here", "_law_odd_here", "_law_names_here", "_law_cell_here"] 44 spWithO := Df.mk' F18 b18 m18 (ok_With F18 T DMix10 DLaid16 DCopy17 DHolders18)
  have DWithin20 : Df l.prog w K mg base "_law_within" ["_law_doc_here", "_law_cell_here", "_law_names_here"] 2 spWithin := Df.mk' F19 b19 m19 (ok_Within F19 T DMix10)
  exact ok_Law F20 T DIsDoc0 DCell7 DNames8 DDoc10 DOdd15 DWith16 DWithin20 hrepr hSys
theorem walk {l : PySem.W.OpenLaw} {q : Program} {loose : List Str} {XP : (Str → Option Value) → Heap → Prop} {YP : World → Heap → Prop} {d : DefRec} {K : Params → PySem.W.Frag} (hn : l.most = some 63) (hdf : d.params.defaults = [])
    (hY : ∀ (w : World) (h : Heap), YP w h → (K w.params).In h)
    (F : ∀ (w : World) (mg : Str → Option Value) (fa : Addr) (h : Heap), (K w.params).In h → h.Ns mainGlobals mg → mg d.name = some (.ref fa) →
      ∃ fd : FuncData, (∀ (s : Shared) (u : Value), BindsTo s fd ⟨[u], []⟩ [("_law_script", u)]) ∧ ∀ base : Heap, (K w.params).In base → base.Ns mainGlobals mg → FnOk l.prog w (K w.params) mg base CX0 60 fa fd ["_law_script"] (spLaw (K w.params))) :
    PySem.W.WalkO q loose XP YP l.row.toRowW d [] (fun f vs => PySem.call f vs) :=
  L2.walk_of (n := 63) (k := 60) (x := "_law_script") (CX := fun _ => CX0) (sp := fun w => spLaw (K w.params)) hn (by decide) hdf ⟨rfl, by decide, by decide, rfl⟩ hY F (fun _ _ a ns hl _ hS => ⟨a, ns, rfl, hS, hl, fun _ => rfl⟩) fun _ _ _ _ _ z => z
theorem walkZ {l : PySem.W.OpenLaw} {q : Program} {loose : List Str} {XP : (Str → Option Value) → Heap → Prop} {d : DefRec} {K : Params → PySem.W.Frag} {as : List Addr} {n t : Nat} (e : ∀ P : Params, as = List.map (fun x => x.fst) (K P)) (hn : l.most = some 63) (hdf : d.params.defaults = [])
    (F : ∀ (w : World) (mg : Str → Option Value) (fa : Addr) (h : Heap), (K w.params).In h → h.Ns mainGlobals mg → mg d.name = some (.ref fa) →
      ∃ fd : FuncData, (∀ (s : Shared) (u : Value), BindsTo s fd ⟨[u], []⟩ [("_law_script", u)]) ∧ ∀ base : Heap, (K w.params).In base → base.Ns mainGlobals mg → FnOk l.prog w (K w.params) mg base CX0 60 fa fd ["_law_script"] (spLaw (K w.params))) :
    PySem.W.WalkX q loose XP (PySem.W.X.obsZ as) (PySem.W.X.valZ K n t) l.row.toRowW d [] (fun f vs => PySem.call f vs) :=
  fun w s₀ s₁ mg mb G y a o pm cd doc dV kV h1 h2 h3 h4 h5 h6 args vals as' L p1 p2 p3 p4 p5 =>
    walk (YP := fun w h => (K w.params).In h) hn hdf (fun _ _ z => z) F w s₀ s₁ mg mb G ((show (K w.params).In s₀.heap from (PySem.W.X.z_facts e y).2.1).keeps L.keeps) a o pm cd doc dV kV h1 h2 h3 h4 h5 h6 args vals as' p1 p2 p3 p4 p5
end K12
open PySem PySem.W PyProof.Rows
set_option maxRecDepth 100000 in
set_option maxHeartbeats 0 in
theorem PySem.Challenge.cw_patchbough_k12_what_is_no_document_holds : PySem.Challenge.rw_patchbough_k12_what_is_no_document.Holds := by
  w_on; o_law; z_head; (case hw => w_witness2)
  k_fill
  refine K12.walkZ (l := PySem.Challenge.rw_patchbough_k12_what_is_no_document) (fun _ => rfl) rfl rfl ?F
  case F =>
    intro w mg fa h KX G hmg
    refine' K12.all_mk KX G hmg ?a1 ?l1 ?c1 ?k1 ?a2 ?l2 ?c2 ?k2 ?a3 ?l3 ?c3 ?k3 ?a4 ?l4 ?c4 ?k4 ?a5 ?l5 ?c5 ?k5 ?a6 ?l6 ?c6 ?k6 ?a7 ?l7 ?c7 ?k7 ?a8 ?l8 ?c8 ?k8 ?a9 ?l9 ?c9 ?k9 ?a10 ?l10 ?c10 ?k10 ?a11 ?l11 ?c11 ?k11 ?a12 ?l12 ?c12 ?k12 ?a13 ?l13 ?c13 ?k13 ?a14 ?l14 ?c14 ?k14 ?a15 ?l15 ?c15 ?k15 ?a16 ?l16 ?c16 ?k16 ?a17 ?l17 ?c17 ?k17 ?a18 ?l18 ?c18 ?k18 ?a19 ?l19 ?c19 ?k19 ?a20 ?l20 ?c20 ?k20 ?z1 ?z2 ?z3 ?z4 ?z5 ?z6 ?z7 ?z8 ?z9 ?z10 ?z11 ?z12 ?z13 ?z14 ?z15 ?z16 ?z17 ?e1 ?e2 ?e3 ?zR ?zS
    (case a1 => k_is)
    (case l1 => k_is)
    (case c1 => k_is)
    (case k1 => k_is)
    (case a2 => k_is)
    (case l2 => k_is)
    (case c2 => k_is)
    (case k2 => k_is)
    (case a3 => k_is)
    (case l3 => k_is)
    (case c3 => k_is)
    (case k3 => k_is)
    (case a4 => k_is)
    (case l4 => k_is)
    (case c4 => k_is)
    (case k4 => k_is)
    (case a5 => k_is)
    (case l5 => k_is)
    (case c5 => k_is)
    (case k5 => k_is)
    (case a6 => k_is)
    (case l6 => k_is)
    (case c6 => k_is)
    (case k6 => k_is)
    (case a7 => k_is)
    (case l7 => k_is)
    (case c7 => k_is)
    (case k7 => k_is)
    (case a8 => k_is)
    (case l8 => k_is)
    (case c8 => k_is)
    (case k8 => k_is)
    (case a9 => k_is)
    (case l9 => k_is)
    (case c9 => k_is)
    (case k9 => k_is)
    (case a10 => k_is)
    (case l10 => k_is)
    (case c10 => k_is)
    (case k10 => k_is)
    (case a11 => k_is)
    (case l11 => k_is)
    (case c11 => k_is)
    (case k11 => k_is)
    (case a12 => k_is)
    (case l12 => k_is)
    (case c12 => k_is)
    (case k12 => k_is)
    (case a13 => k_is)
    (case l13 => k_is)
    (case c13 => k_is)
    (case k13 => k_is)
    (case a14 => k_is)
    (case l14 => k_is)
    (case c14 => k_is)
    (case k14 => k_is)
    (case a15 => k_is)
    (case l15 => k_is)
    (case c15 => k_is)
    (case k15 => k_is)
    (case a16 => k_is)
    (case l16 => k_is)
    (case c16 => k_is)
    (case k16 => k_is)
    (case a17 => k_is)
    (case l17 => k_is)
    (case c17 => k_is)
    (case k17 => k_is)
    (case a18 => k_is)
    (case l18 => k_is)
    (case c18 => k_is)
    (case k18 => k_is)
    (case a19 => k_is)
    (case l19 => k_is)
    (case c19 => k_is)
    (case k19 => k_is)
    (case a20 => k_is)
    (case l20 => k_is)
    (case c20 => k_is)
    (case k20 => k_is)
    (case z1 => k_is)
    (case z2 => k_is)
    (case z3 => k_is)
    (case z4 => k_is)
    (case z5 => k_is)
    (case z6 => k_is)
    (case z7 => k_is)
    (case z8 => k_is)
    (case z9 => k_is)
    (case z10 => k_is)
    (case z11 => k_is)
    (case z12 => k_is)
    (case z13 => k_is)
    (case z14 => k_is)
    (case z15 => k_is)
    (case z16 => k_is)
    (case z17 => k_is)
    (case e1 => k_is)
    (case e2 => k_is)
    (case e3 => k_is)
    (case zR => k_is)
    (case zS => k_is)
#print axioms PySem.Challenge.cw_patchbough_k12_what_is_no_document_holds

