import PyProof.Rows.All
import Wide.All
import OpenK.AllK
import Wide.FinOn
import Lean
import PyProof.EqAt
import PyProof.EqKinds
import PyProof.TupleCall
import PyProof.ExcInit
import PyProof.NsDelKeeps
import PySem.Challenge.RW_patchbough_k18_refusals_apart
set_option Elab.async false
set_option linter.all false
set_option maxRecDepth 100000
namespace L2
open PySem PySem.Spec PyProof.Rows

abbrev Key := Sum Int Str
def keyIs : Key → Value → Bool
  | .inl k, v => Value.isInt k v
  | .inr x, v => Value.isStrOf x v
def keyH (w : World) : Key → Int
  | .inl k => hashInt k
  | .inr x => hashStr w x
theorem keyIs_shape : ∀ {k : Key} {v : Value}, keyIs k v = true → (∃ i t, k = Sum.inl i ∧ v = Value.int i t) ∨ (∃ x t, k = Sum.inr x ∧ v = Value.str x t)
  | .inl i, v, h => by
    obtain ⟨t, e⟩ := Value.isInt_shape (k := i) (v := v) h
    exact .inl ⟨i, t, rfl, e⟩
  | .inr x, v, h => by
    obtain ⟨t, e⟩ := Value.isStrOf_shape (x := x) (v := v) h
    exact .inr ⟨x, t, rfl, e⟩
theorem key_ll (a b : Int) : decide ((Sum.inl a : Key) = Sum.inl b) = (a == b) := by
  by_cases e : a = b
  · subst e; simp
  · have h : ¬ (Sum.inl a : Key) = Sum.inl b := fun q => e (Sum.inl.inj q)
    rw [decide_eq_false h]
    exact (beq_eq_false_iff_ne.mpr e).symm
theorem key_rr (a b : Str) : decide ((Sum.inr a : Key) = Sum.inr b) = decide (a = b) := by
  by_cases e : a = b
  · subst e; simp
  · have h : ¬ (Sum.inr a : Key) = Sum.inr b := fun q => e (Sum.inr.inj q)
    rw [decide_eq_false h, decide_eq_false e]
theorem key_lr (a : Int) (b : Str) : decide ((Sum.inl a : Key) = Sum.inr b) = false := decide_eq_false (fun q => nomatch q)
theorem key_rl (a : Str) (b : Int) : decide ((Sum.inr a : Key) = Sum.inl b) = false := decide_eq_false (fun q => nomatch q)

def mixKind (prog : Program) (w : World) : PySem.KeyKind prog w Key where
  is := keyIs
  hash := keyH w
  inj := fun v a b ha hb => by
    rcases keyIs_shape ha with ⟨i, t, rfl, rfl⟩ | ⟨x, t, rfl, rfl⟩
    · rcases keyIs_shape hb with ⟨j, u, rfl, e⟩ | ⟨y, u, rfl, e⟩
      · injection e with e1 _; rw [e1]
      · exact nomatch e
    · rcases keyIs_shape hb with ⟨j, u, rfl, e⟩ | ⟨y, u, rfl, e⟩
      · exact nomatch e
      · injection e with e1 _; rw [e1]
  byValue := fun k v h => by
    rcases keyIs_shape h with ⟨i, t, rfl, rfl⟩ | ⟨x, t, rfl, rfl⟩ <;> rfl
  pyHash := fun hv h => by
    rcases keyIs_shape hv with ⟨i, t, rfl, rfl⟩ | ⟨x, t, rfl, rfl⟩
    · exact wpAny_pyHash_int h
    · exact wpAny_pyHash_str h
  eqBool := fun hu hv h => by
    rcases keyIs_shape hu with ⟨i, t, rfl, rfl⟩ | ⟨x, t, rfl, rfl⟩
    · rcases keyIs_shape hv with ⟨j, u, rfl, rfl⟩ | ⟨y, u, rfl, rfl⟩
      · rw [key_ll] at h; exact wpAny_eqBool_int h
      · rw [key_lr] at h; exact SeqAt.EqAt.int_str i t y u _ _ _ _ h
    · rcases keyIs_shape hv with ⟨j, u, rfl, rfl⟩ | ⟨y, u, rfl, rfl⟩
      · rw [key_rl] at h; exact SeqAt.EqAt.str_int x t j u _ _ _ _ h
      · rw [key_rr] at h; exact wpAny_eqBool_str h
  «strs» := fun k x t v h => by
    rcases keyIs_shape h with ⟨i, u, rfl, e⟩ | ⟨y, u, rfl, e⟩
    · exact nomatch e
    · injection e with e1 _
      subst e1
      cases v <;> rfl

end L2

namespace L2
open PySem PySem.Spec PyProof.Rows

inductive V where
  | non | bl (b : Bool) | int (i : Int) | str (x : Str) | byt (b : Array UInt8) | flt (b : UInt64) | ref (a : Addr) | ty (n : String)
  deriving DecidableEq

def RelV : V → Value → Prop
  | .non, u => u = Value.none
  | .bl b, u => u = Value.bool b
  | .int i, u => ∃ t, u = Value.int i t
  | .str x, u => ∃ t, u = Value.str x t
  | .byt b, u => ∃ t, u = Value.bytes b t
  | .flt b, u => ∃ t, u = Value.float b t
  | .ref a, u => u = Value.ref a
  | .ty n, u => u = Value.type n

abbrev Vals : List V → List Value → Prop := Paired RelV
theorem Vals.length {xs : List V} {us : List Value} (r : Vals xs us) : xs.length = us.length := Paired.length r
theorem Vals.inv {x : V} {xs : List V} {us : List Value} (r : Vals (x :: xs) us) : ∃ u ur, us = u :: ur ∧ RelV x u ∧ Vals xs ur := by
  cases r with
  | cons a b => exact ⟨_, _, rfl, a, b⟩
theorem Vals.get {xs : List V} {us : List Value} {i : Nat} {x : V} (r : Vals xs us) (e : xs[i]? = some x) : ∃ u, us[i]? = some u ∧ RelV x u := by
  induction r generalizing i with
  | nil => rw [List.getElem?_nil] at e; exact nomatch e
  | cons a b ih =>
    cases i with
    | zero => exact ⟨_, rfl, Option.some.inj e ▸ a⟩
    | succ j => exact ih (i := j) e
theorem Vals.set {x : V} {u : Value} (r : RelV x u) : ∀ {xs : List V} {us : List Value} (i : Nat), Vals xs us → Vals (xs.set i x) (us.set i u)
  | _, _, _, .nil => .nil
  | _, _, 0, .cons _ t => .cons r t
  | _, _, i + 1, .cons q t => .cons q (Vals.set r i t)
theorem Vals.append {xs ys : List V} {us ws : List Value} (r : Vals xs us) (s : Vals ys ws) : Vals (xs ++ ys) (us ++ ws) := by
  induction r with
  | nil => exact s
  | cons a _ ih => exact .cons a ih
theorem Vals.take : ∀ {xs : List V} {us : List Value} (n : Nat), Vals xs us → Vals (xs.take n) (us.take n)
  | _, _, 0, _ => .nil
  | _, _, _ + 1, .nil => .nil
  | _, _, n + 1, .cons r t => .cons r (Vals.take n t)
theorem Vals.drop : ∀ {xs : List V} {us : List Value} (n : Nat), Vals xs us → Vals (xs.drop n) (us.drop n)
  | _, _, 0, r => r
  | _, _, _ + 1, .nil => .nil
  | _, _, n + 1, .cons _ t => Vals.drop n t
theorem Vals.none_of : ∀ {xs : List V} {us : List Value} {i : Nat}, Vals xs us → xs[i]? = none → us[i]? = none := fun {xs us i} r e => by
  have h1 := r.length
  have h2 : xs.length ≤ i := List.getElem?_eq_none_iff.mp e
  exact List.getElem?_eq_none_iff.mpr (by omega)

def RelO : Option V → Option Value → Prop
  | some v, some u => RelV v u
  | none, none => True
  | _, _ => False
def KV {κ : Type} : List (κ × V) → List (κ × Value) → Prop := Paired fun (p : κ × V) (q : κ × Value) => p.1 = q.1 ∧ RelV p.2 q.2

def kV : Key → V
  | .inl i => .int i
  | .inr x => .str x

inductive HO where
  | lst (xs : List V)
  | tup (xs : List V)
  | dK (kvs : List (Key × V)) | dT (kvs : List (List Key × V))
  | set (S : Int → Bool) (n : Nat)
  | ins (C dx : Addr) (fs : List (Str × V))
  | own (x : Addr)
  | xd (fs : List (Str × V))
  | met (f x : Addr)
  | rng (lo hi : Int)
  | frz (o : Obj) (u : HO)
  | tbl (ps : Array Value)
  | ext (φ : Heap → Prop)

abbrev Hp := Addr → Option HO
def upd (H : Hp) (a : Addr) (o : HO) : Hp := fun b => if b = a then some o else H b
theorem upd_same {H : Hp} {a : Addr} {o : HO} : upd H a o a = some o := by unfold upd; rw [if_pos rfl]
theorem upd_ne {H : Hp} {a b : Addr} {o : HO} (h : b ≠ a) : upd H a o b = H b := by unfold upd; rw [if_neg h]
theorem upd_upd {H : Hp} {a : Addr} {o u : HO} : upd (upd H a o) a u = upd H a u := by
  funext b; unfold upd; split <;> rfl
theorem ne_of {H : Hp} {a b : Addr} {o u : HO} (h : H a = some o) (h' : H b = some u) (d : o ≠ u) : a ≠ b := by
  intro e; subst e; rw [h] at h'; exact d (Option.some.inj h')
theorem ne_of_none {H : Hp} {a b : Addr} {o : HO} (h : H a = some o) (h' : H b = none) : a ≠ b := by
  intro e; subst e; rw [h] at h'; cases h'

section
variable (P : Program) (w : World)
def ObjOk (H : Hp) (h : Heap) (a : Addr) : HO → Prop
  | .lst xs => xs.length ≤ sizeLine ∧ ∃ (its : List Value) (n : Nat), Vals xs its ∧ h.get? a = some { cls := .type "list", data := .seq its.toArray n }
  | .tup xs => xs.length ≤ sizeLine ∧ ∃ its : List Value, Vals xs its ∧ IsTup h a its.toArray
  | .dK kvs => kvs.length ≤ sizeLine ∧ (a == sysModules) = false ∧ ∃ vs, KV kvs vs ∧ h.DictOf (mixKind P w) a vs
  | .dT kvs => kvs.length ≤ sizeLine ∧ (a == sysModules) = false ∧ ∃ xs : List (List Key × Addr × Value),
      Paired (fun (p : List Key × V) (q : List Key × Addr × Value) => p.1 = q.1 ∧ H q.2.1 = some (.tup (p.1.map kV)) ∧ RelV p.2 q.2.2) kvs xs ∧
      ∃ o es ep, h.get? a = some o ∧ o.ExactDict ∧ o.data = .dict es ep ∧ es.toList = xs.map (entryOfKey (tupleKind (mixKind P w))) ∧ (xs.map (·.1)).Nodup
  | .set S n => h.SetOf (intKind P w) a S n
  | .ins C dx fs => H dx = some (.own a) ∧ fs.length ≤ 1000 ∧ dx ≠ a ∧ h.get? a = some (PySem.W.instObj C dx) ∧
      ∃ mA, h.Ns1 dx mA ∧ (∀ f, RelO (fs.lookup f) (mA f)) ∧ PySem.Within mA (fs.map (·.1))
  | .own _ => ∃ o, h.get? a = some o
  | .xd fs => ∃ mA, h.Ns1 a mA ∧ ∀ f, RelO (fs.lookup f) (mA f)
  | .rng lo hi => ∃ t u v, h.get? a = some { cls := .type "range", data := .fields #[.int lo t, .int hi u, .int 1 v] }
  | .frz o u => h.get? a = some o ∧ ObjOk H h a u
  | .tbl ps => h.get? a = some { cls := .none, data := .fields ps }
  | .met f x => h.get? a = some (PySem.W.methodObj (.ref f) (.ref x))
  | .ext φ => φ h ∧ (∃ o, h.get? a = some o) ∧ ∀ h1 h2 : Heap, φ h1 → (∀ o, h1.get? a = some o → h2.get? a = some o) → φ h2
def HOk (H : Hp) (h : Heap) : Prop := ∀ a o, H a = some o → ObjOk P w H h a o
end

section
variable {P : Program} {w : World} {H H' : Hp} {h h' : Heap} {a : Addr} {o : HO}
theorem ObjOk.lt (x : ObjOk P w H h a o) : a < h.objs.size := by
  cases o with
  | lst xs => obtain ⟨_, _, _, _, e⟩ := x; exact Heap.lt_size e
  | tup xs => obtain ⟨_, _, _, p⟩ := x; exact p.lt
  | dK kvs => obtain ⟨_, _, _, _, o, _, _, e, _⟩ := x; exact Heap.lt_size e
  | dT kvs => obtain ⟨_, _, _, _, o, _, _, e, _⟩ := x; exact Heap.lt_size e
  | set S n => obtain ⟨o, _, _, _, e, _⟩ := x; exact Heap.lt_size e
  | ins C dx fs => obtain ⟨_, _, _, e, _⟩ := x; exact Heap.lt_size e
  | own y => obtain ⟨_, e⟩ := x; exact Heap.lt_size e
  | xd fs => obtain ⟨_, ⟨_, _, _, e, _⟩, _⟩ := x; exact Heap.lt_size e
  | rng lo hi => obtain ⟨_, _, _, e⟩ := x; exact Heap.lt_size e
  | frz ob u => obtain ⟨e, _⟩ := x; exact Heap.lt_size e
  | tbl ps => exact Heap.lt_size (show h.get? a = some _ from x)
  | met f y => exact Heap.lt_size (show h.get? a = some _ from x)
  | ext φ => obtain ⟨_, ⟨_, e⟩, _⟩ := x; exact Heap.lt_size e
theorem Paired.mapP {α β : Type} {F G : α → β → Prop} {l₁ : List α} {l₂ : List β} (r : Paired F l₁ l₂) (f : ∀ a b, F a b → G a b) : Paired G l₁ l₂ := by
  induction r with
  | nil => exact .nil
  | cons a _ ih => exact .cons (f _ _ a) ih
theorem ObjOk.stay (x : ObjOk P w H h a o) (k : ∀ b u, (b = a ∨ H b = some (.own a)) → h.get? b = some u → h'.get? b = some u)
    (ho : ∀ b, H b = some (.own a) → H' b = some (.own a)) (ht : ∀ b xs, H b = some (.tup xs) → H' b = some (.tup xs)) : ObjOk P w H' h' a o := by
  induction o with
  | lst xs => obtain ⟨z, its, n, r, e⟩ := x; exact ⟨z, its, n, r, k _ _ (.inl rfl) e⟩
  | tup xs => obtain ⟨z, its, r, ob, e, c⟩ := x; exact ⟨z, its, r, ob, k _ _ (.inl rfl) e, c⟩
  | dK kvs => obtain ⟨z, y, vs, r, ob, es, ep, e, c⟩ := x; exact ⟨z, y, vs, r, ob, es, ep, k _ _ (.inl rfl) e, c⟩
  | dT kvs =>
    obtain ⟨z, y, xs, r, ob, es, ep, e, c⟩ := x
    exact ⟨z, y, xs, Paired.mapP r fun p q z => ⟨z.1, ht _ _ z.2.1, z.2.2⟩, ob, es, ep, k _ _ (.inl rfl) e, c⟩
  | set S n => obtain ⟨ob, es, ep, t, e, c⟩ := x; exact ⟨ob, es, ep, t, k _ _ (.inl rfl) e, c⟩
  | ins C dx fs =>
    obtain ⟨d, z, ne, e, mA, ⟨od, es, ep, e2, c⟩, r⟩ := x
    exact ⟨ho _ d, z, ne, k _ _ (.inl rfl) e, mA, ⟨od, es, ep, k _ _ (.inr d) e2, c⟩, r⟩
  | own y => obtain ⟨ob, e⟩ := x; exact ⟨ob, k _ _ (.inl rfl) e⟩
  | xd fs => obtain ⟨mA, ⟨od, es, ep, e, c⟩, r⟩ := x; exact ⟨mA, ⟨od, es, ep, k _ _ (.inl rfl) e, c⟩, r⟩
  | rng lo hi => obtain ⟨t, u, v, e⟩ := x; exact ⟨t, u, v, k _ _ (.inl rfl) e⟩
  | frz ob u ih => obtain ⟨e, q⟩ := x; exact ⟨k _ _ (.inl rfl) e, ih q⟩
  | tbl ps =>
    have e : h.get? a = some { cls := .none, data := .fields ps } := x
    show h'.get? a = some { cls := .none, data := .fields ps }
    exact k a _ (.inl rfl) e
  | met f y =>
    have e : h.get? a = some (PySem.W.methodObj (.ref f) (.ref y)) := x
    show h'.get? a = some (PySem.W.methodObj (.ref f) (.ref y))
    exact k a _ (.inl rfl) e
  | ext φ => obtain ⟨p, ⟨o, e⟩, st⟩ := x; exact ⟨st _ _ p fun o q => k _ _ (.inl rfl) q, ⟨o, k _ _ (.inl rfl) e⟩, st⟩
theorem HOk.lt (x : HOk P w H h) (e : H a = some o) : a < h.objs.size := (x a o e).lt
theorem HOk.fresh (x : HOk P w H h) (e : h.objs.size ≤ a) : H a = none := by
  cases q : H a with
  | none => rfl
  | some u => exact absurd (Nat.lt_of_lt_of_le (x.lt q) e) (Nat.lt_irrefl _)
theorem HOk.kept (x : HOk P w H h) (k : ∀ b u, h.get? b = some u → h'.get? b = some u) : HOk P w H h' := fun a o e =>
  (x a o e).stay (fun b u _ q => k b u q) (fun _ q => q) fun _ _ q => q
theorem HOk.laid (x : HOk P w H h) (k : ∀ b u, h.get? b = some u → h'.get? b = some u) (hp : h.objs.size ≤ a) (new : ObjOk P w (upd H a o) h' a o) : HOk P w (upd H a o) h' := fun b u e => by
  have hn := x.fresh hp
  by_cases hb : b = a
  · subst hb; rw [upd_same] at e; cases e; exact new
  · rw [upd_ne hb] at e
    exact (x b u e).stay (fun c v _ q => k c v q) (fun c q => by rw [upd_ne (ne_of_none q hn)]; exact q) fun c xs q => by rw [upd_ne (ne_of_none q hn)]; exact q
end

def Rd (H : Hp) (a : Addr) (u : HO) : Prop := H a = some u ∨ ∃ o, H a = some (.frz o u)
theorem Rd.of {H : Hp} {a : Addr} {u : HO} (h : H a = some u) : Rd H a u := .inl h
theorem Rd.ok {P : Program} {w : World} {H : Hp} {h : Heap} {a : Addr} {u : HO} (r : Rd H a u) (x : HOk P w H h) : ObjOk P w H h a u := by
  rcases r with r | ⟨o, r⟩
  · exact x a u r
  · obtain ⟨_, q⟩ := x a _ r
    exact q
def Mut : Option HO → Prop
  | some (.lst _) => True
  | some (.dK _) => True
  | some (.dT _) => True
  | some (.set _ _) => True
  | some (.ins _ _ _) => True
  | some (.ext _) => True
  | _ => False
section
variable {P : Program} {w : World} {H : Hp} {h h' : Heap} {x e : Addr} {o' : HO}
theorem HOk.write (ok : HOk P w H h) (mu : Mut (H x)) (he : e = x ∨ H e = some (.own x)) (k : ∀ b u, b ≠ e → h.get? b = some u → h'.get? b = some u) (heo : ∃ u, h'.get? e = some u)
    (new : ObjOk P w (upd H x o') h' x o') : HOk P w (upd H x o') h' := fun b u q => by
  have nown : ∀ c y, H c = some (.own y) → c ≠ x := fun c y r z => by subst z; rw [r] at mu; exact mu
  have ntup : ∀ c xs, H c = some (.tup xs) → c ≠ x := fun c xs r z => by subst z; rw [r] at mu; exact mu
  by_cases hb : b = x
  · subst hb; rw [upd_same] at q; cases q; exact new
  · rw [upd_ne hb] at q
    by_cases hbe : b = e
    · have q' : H b = some (.own x) := by
        rcases he with z | z
        · exact absurd (hbe.trans z) hb
        · rw [hbe]; exact z
      rw [q] at q'; cases q'
      obtain ⟨v, hv⟩ := heo
      exact ⟨v, by rw [hbe]; exact hv⟩
    · refine (ok b u q).stay (fun c v hc r => k c v ?_ r) (fun c r => by rw [upd_ne (nown c b r)]; exact r) fun c xs r => by rw [upd_ne (ntup c xs r)]; exact r
      rcases hc with rfl | hc
      · exact hbe
      · rintro rfl
        rcases he with z | z
        · exact nown c b hc z
        · rw [hc] at z; cases z; exact hb rfl
end

structure Un (fs ex : List Addr) (H H' : Hp) (h h' : Heap) : Prop where
  keep : ∀ b o, h.get? b = some o → H b = none → b ∉ fs → b ∉ ex → h'.get? b = some o
  slot : ∀ b o, h.get? b = some o → H b = none → b ∈ fs → b ∉ ex → ∃ sl, h'.get? b = some { o with slots := sl }
  free : ∀ b o, h.get? b = some o → H b = none → b ∉ ex → H' b = none
  there : ∀ b o, h.get? b = some o → b ∉ ex → ∃ o', h'.get? b = some o'
  tups : ∀ b xs, H b = some (.tup xs) → H' b = some (.tup xs)
  frzs : ∀ b o u, H b = some (.frz o u) → H' b = some (.frz o u)
  tbls : ∀ b ps, H b = some (.tbl ps) → ∃ more, H' b = some (.tbl (ps ++ more))
section
variable {fs fs' ex ex' : List Addr} {H H1 H2 : Hp} {h h1 h2 h' : Heap} {a x e : Addr} {o : HO}
theorem Un.any (u : Un fs ex H H1 h h1) {b : Addr} {ob : Obj} (q : h.get? b = some ob) (n : H b = none) (hx : b ∉ ex) : ∃ sl, h1.get? b = some { ob with slots := sl } := by
  by_cases hb : b ∈ fs
  · exact u.slot b ob q n hb hx
  · exact ⟨ob.slots, u.keep b ob q n hb hx⟩
theorem Un.trans (a : Un fs ex H H1 h h1) (b : Un fs ex H1 H2 h1 h2) : Un fs ex H H2 h h2 where
  keep := fun c ob q n hc hx => b.keep c ob (a.keep c ob q n hc hx) (a.free c ob q n hx) hc hx
  slot := fun c ob q n hc hx => by
    obtain ⟨sl, e1⟩ := a.slot c ob q n hc hx
    obtain ⟨sl', e2⟩ := b.slot c _ e1 (a.free c ob q n hx) hc hx
    exact ⟨sl', e2⟩
  free := fun c ob q n hx => by
    obtain ⟨o', e1⟩ := a.there c ob q hx
    exact b.free c o' e1 (a.free c ob q n hx) hx
  there := fun c ob q hx => by
    obtain ⟨o', e1⟩ := a.there c ob q hx
    exact b.there c o' e1 hx
  tups := fun c xs q => b.tups c xs (a.tups c xs q)
  frzs := fun c ob xs q => b.frzs c ob xs (a.frzs c ob xs q)
  tbls := fun c ps q => by
    obtain ⟨m1, e1⟩ := a.tbls c ps q
    obtain ⟨m2, e2⟩ := b.tbls c _ e1
    exact ⟨m1 ++ m2, by rw [e2, Array.append_assoc]⟩
theorem Un.kept (k : ∀ b u, h.get? b = some u → h'.get? b = some u) : Un fs ex H H h h' :=
  ⟨fun b ob q _ _ _ => k b ob q, fun b ob q _ _ _ => ⟨ob.slots, k b ob q⟩, fun _ _ _ n _ => n, fun b ob q _ => ⟨ob, k b ob q⟩, fun _ _ q => q, fun _ _ _ q => q, fun _ ps q => ⟨#[], by rw [q]; simp⟩⟩
theorem Un.refl : Un fs ex H H h h := Un.kept fun _ _ q => q
theorem Un.laid (k : ∀ b u, h.get? b = some u → h'.get? b = some u) (hp : h.objs.size ≤ a) (hn : H a = none) : Un fs ex H (upd H a o) h h' where
  keep := fun b u q _ _ _ => k b u q
  slot := fun b u q _ _ _ => ⟨u.slots, k b u q⟩
  free := fun b u q n _ => by rw [upd_ne (Nat.ne_of_lt (Nat.lt_of_lt_of_le (Heap.lt_size q) hp))]; exact n
  there := fun b u q _ => ⟨u, k b u q⟩
  tups := fun b xs q => by rw [upd_ne (ne_of_none q hn)]; exact q
  frzs := fun b u xs q => by rw [upd_ne (ne_of_none q hn)]; exact q
  tbls := fun b ps q => ⟨#[], by rw [upd_ne (ne_of_none q hn), q]; simp⟩
theorem Un.write (mu : Mut (H x)) (he : e = x ∨ H e = some (.own x)) (k : ∀ b u, b ≠ e → h.get? b = some u → h'.get? b = some u) (heo : ∃ u, h'.get? e = some u) : Un fs ex H (upd H x o) h h' := by
  have hx : ∀ b, H b = none → b ≠ x := fun b n z => by subst z; rw [n] at mu; exact mu
  have hb : ∀ b, H b = none → b ≠ e := fun b n z => by
    subst z
    rcases he with r | r
    · exact hx b n r
    · rw [n] at r; cases r
  have hm : ∀ b u, H b = some u → ¬ Mut (some u) → b ≠ x := fun b u q nm z => by subst z; rw [q] at mu; exact nm mu
  refine ⟨fun b u q n _ _ => k b u (hb b n) q, fun b u q n _ _ => ⟨u.slots, k b u (hb b n) q⟩, fun b u q n _ => by rw [upd_ne (hx b n)]; exact n, fun b u q _ => ?_,
    fun b xs q => by rw [upd_ne (hm b _ q fun z => z)]; exact q, fun b u xs q => by rw [upd_ne (hm b _ q fun z => z)]; exact q, fun b ps q => ⟨#[], by rw [upd_ne (hm b _ q fun z => z), q]; simp⟩⟩
  by_cases hbe : b = e
  · subst hbe; exact heo
  · exact ⟨u, k b u hbe q⟩
theorem Un.mono (u : Un fs ex H H1 h h1) (hs : ∀ b ∈ fs, b ∈ fs') (hx : ∀ b ∈ ex, b ∈ ex') : Un fs' ex' H H1 h h1 :=
  ⟨fun b ob q n hb he => u.keep b ob q n (fun z => hb (hs b z)) fun z => he (hx b z), fun _ _ q n _ he => u.any q n fun z => he (hx _ z), fun b ob q n he => u.free b ob q n fun z => he (hx b z), fun b ob q he => u.there b ob q fun z => he (hx b z), u.tups, u.frzs, u.tbls⟩
end

def trk (h : Heap) (H : Hp) : List Addr := (List.range h.objs.size).filter fun a => (H a).isSome
def hidT (h : Heap) (H : Hp) : Heap := PySem.W.hideAll h (trk h H)
theorem hidT_size (h : Heap) (H : Hp) : (hidT h H).objs.size = h.objs.size := PySem.W.hideAll_size _ _
theorem hidT_get {h : Heap} {H : Hp} {b : Addr} {o : Obj} (e : h.get? b = some o) (n : H b = none) : (hidT h H).get? b = some o :=
  PySem.W.hideAll_get _ e fun hm => by
    have q : (H b).isSome = true := (List.mem_filter.mp hm).2
    rw [n] at q; simp at q
theorem of_hidT {h : Heap} {H : Hp} {b : Addr} {o : Obj} (e : (hidT h H).get? b = some o) : h.get? b = some o ∧ H b = none := by
  have e' : h.get? b = some o := PySem.W.of_hideAll (trk h H) e
  refine ⟨e', ?_⟩
  cases q : H b with
  | none => rfl
  | some x =>
    have hm : b ∈ trk h H := List.mem_filter.mpr ⟨List.mem_range.mpr (Heap.lt_size e'), by simp [q]⟩
    have z : (hidT h H).get? b = none := PySem.W.hideAll_none (trk h H) hm
    rw [z] at e; cases e

def allNews (g h : Heap) (L : Addr) : List (Addr × Obj) := (List.range h.objs.size).filterMap fun a => if a = L ∨ (g.get? a).isSome = true then none else (h.get? a).map fun o => (a, o)
def rest (g h : Heap) (L d : Addr) : List (Addr × Obj) := (allNews g h L).filter fun p => decide (p.1 ≠ d)
end L2

namespace L2
open PySem PySem.Spec PyProof.Rows

structure Mod (K : PySem.W.Frag) (mg : Str → Option Value) (base : Heap) : Prop where
  kin : K.In base
  glob : base.Ns mainGlobals mg
  blt : ∃ mb, base.Ns builtinsNs mb ∧ ∀ x : Str, x ≠ "__name__" → mb x = bootBuiltins x
  nolimit : base.NoLimit

structure Cx where
  prog : Program
  w : World
  K : PySem.W.Frag
  mg : Str → Option Value
  base : Heap
  A : Around
  N : List Str
  s₀ : Shared
  H₀ : Hp
  env : Env
  outer : List Env
  stack : List Env
  ex : List Addr
  fn : Str → Bool
  calm : Bool
  pn : List (Addr × Obj)
  xe : Value → Shared → Prop
def frs (l : List Env) : List Addr := l.filterMap (·.frame)
abbrev Cx.fs (X : Cx) : List Addr := frs X.outer

def Vis (sc : Scope) (x : Str) : Prop := sc.names.lookup x = some .local ∨ sc.names.lookup x = some .cell ∨ sc.names.lookup x = some .free
def Loc (sc : Scope) (x : Str) : Prop := sc.names.lookup x = some .local ∨ sc.names.lookup x = some .cell
def Look (env : Env) (h : Heap) (m : Str → Option Value) (x : Str) (u : Value) : Prop :=
  (env.kindOf x = some .local ∧ m x = some u) ∨ ((env.kindOf x = some .cell ∨ env.kindOf x = some .free) ∧ ∃ c, env.cells.lookup x = some c ∧ h.IsCell c (some u))

structure Cx.Ok (X : Cx) : Prop where
  mod : Mod X.K X.mg X.base
  kind : X.env.scope.kind = .function
  glob : X.env.globals = mainGlobals
  blt : X.env.builtins = builtinsNs
  above : X.s₀.heap.objs.size ≤ X.env.locals
  inj : ∀ x y c, X.env.cells.lookup x = some c → X.env.cells.lookup y = some c → x = y
  has : ∀ x, (X.env.kindOf x = some .cell ∨ X.env.kindOf x = some .free) → ∃ c, X.env.cells.lookup x = some c
  cab : ∀ x c, X.fn x = true → X.env.cells.lookup x = some c → X.s₀.heap.objs.size ≤ c
  hd : X.calm = true → X.A.handled = none
  frames : X.A.frames = some X.stack
  stk : X.stack = X.outer ∨ (X.stack = X.env :: X.outer ∧ X.env.frame = some X.env.locals)
  exf : ∀ b ∈ X.ex, b ≠ X.env.locals ∧ ∀ x c, X.env.cells.lookup x = some c → c ≠ b
  bs : ∀ b o, X.base.get? b = some o → X.s₀.heap.get? b = some o ∧ X.H₀ b = none
  bsz : X.base.objs.size ≤ X.s₀.heap.objs.size
  noex : ∀ b o, X.base.get? b = some o → b ∉ X.ex
  exfs : ∀ b ∈ X.ex, b ∉ X.fs
  funs : X.s₀.heap.FunFrames X.base X.outer
  frf : ∀ b ∈ X.fs, X.H₀ b = none

structure Inv (X : Cx) (pins : List (Addr × Obj)) (σ : List (Option V)) (H : Hp) (s : Shared) : Prop where
  ok : X.Ok
  os : s.os = X.s₀.os
  bare : AllBare s.gens
  base : Un X.fs X.ex X.H₀ H X.s₀.heap s.heap
  loc : ∃ m, s.heap.Ns X.env.locals m ∧ ∀ (i : Nat) (x : Str) (v : V), X.N[i]? = some x → σ[i]? = some (some v) → Vis X.env.scope x → ∃ u, RelV v u ∧ Look X.env s.heap m x u
  cell : ∀ x c, X.env.cells.lookup x = some c → ∃ v, s.heap.IsCell c v
  free : H X.env.locals = none
  freeC : ∀ x c, X.env.cells.lookup x = some c → H c = none
  pin : ∀ p ∈ X.pn ++ pins, s.heap.get? p.1 = some p.2 ∧ H p.1 = none ∧ p.1 ≠ X.env.locals ∧ p.1 ∉ X.fs ∧ ∀ v, p.2.data ≠ .cell v
  hok : HOk X.prog X.w H s.heap
  len : σ.length = X.N.length

section
variable {X : Cx} {pins : List (Addr × Obj)} {σ : List (Option V)} {H H' : Hp} {s : Shared} {h' : Heap}

theorem Cx.Ok.nofr (ok : X.Ok) {b : Addr} {o : Obj} (e : X.base.get? b = some o) : b ∉ X.fs := fun hb => by
  have := (ok.funs.mem hb).1
  rw [e] at this; cases this
theorem Inv.bs (I : Inv X pins σ H s) : ∀ b o, X.base.get? b = some o → s.heap.get? b = some o ∧ H b = none := fun b o e =>
  ⟨I.base.keep b o (I.ok.bs b o e).1 (I.ok.bs b o e).2 (I.ok.nofr e) (I.ok.noex b o e), I.base.free b o (I.ok.bs b o e).1 (I.ok.bs b o e).2 (I.ok.noex b o e)⟩
theorem Inv.bk (I : Inv X pins σ H s) : ∀ b o, X.base.get? b = some o → s.heap.get? b = some o := fun b o e => (I.bs b o e).1
theorem Inv.mod (I : Inv X pins σ H s) : Mod X.K X.mg X.base := I.ok.mod
theorem Inv.kIn (I : Inv X pins σ H s) : X.K.In s.heap := I.ok.mod.kin.keeps I.bk
theorem Inv.nolimit (I : Inv X pins σ H s) : s.heap.NoLimit := I.ok.mod.nolimit.keeps I.bk
theorem Inv.fr (I : Inv X pins σ H s) : ∃ m, Fr X.base X.env.locals s.heap m :=
  let ⟨m, hn, _⟩ := I.loc
  ⟨m, hn, I.bk, Nat.le_trans I.ok.bsz I.ok.above⟩
theorem Inv.lt (I : Inv X pins σ H s) : X.env.locals < s.heap.objs.size := let ⟨_, hn, _⟩ := I.loc; hn.lt
theorem Inv.sz (I : Inv X pins σ H s) : X.s₀.heap.objs.size ≤ s.heap.objs.size := Nat.le_trans I.ok.above (Nat.le_of_lt I.lt)
theorem Inv.nofs (I : Inv X pins σ H s) {a : Addr} (h : s.heap.objs.size ≤ a) : a ∉ X.fs := fun hb => by
  obtain ⟨_, o, ho, _⟩ := I.ok.funs.mem hb
  exact absurd (Nat.lt_of_lt_of_le (Heap.lt_size ho) (Nat.le_trans I.sz h)) (Nat.lt_irrefl _)
theorem Inv.cne (I : Inv X pins σ H s) : ∀ x c, X.env.cells.lookup x = some c → c ≠ X.env.locals := fun x c e z => by
  obtain ⟨v, o, ho, hd⟩ := I.cell x c e
  obtain ⟨m, ⟨o', es, ep, ho', hd', _⟩, _⟩ := I.loc
  rw [z, ho'] at ho; cases ho; rw [hd'] at hd; cases hd
theorem Inv.funs (I : Inv X pins σ H s) : s.heap.FunFrames X.base X.outer := by
  have all : ∀ (l : List Env), (∀ b ∈ frs l, b ∈ X.fs) → X.s₀.heap.FunFrames X.base l → s.heap.FunFrames X.base l := by
    intro l
    induction l with
    | nil => intro _ _; trivial
    | cons env r ih =>
      intro hs hl
      obtain ⟨hk, ⟨L, o, hf, hn, ho, hd⟩, hr⟩ := hl
      have hL : L ∈ X.fs := hs L (by unfold frs; rw [List.filterMap_cons, hf]; exact List.mem_cons_self)
      obtain ⟨sl, e⟩ := I.base.slot L o ho (I.ok.frf L hL) hL fun z => I.ok.exfs L z hL
      exact ⟨hk, ⟨L, _, hf, hn, e, hd⟩, ih (fun b hb => hs b (by unfold frs; rw [List.filterMap_cons, hf]; exact List.mem_cons_of_mem _ hb)) hr⟩
  exact all X.outer (fun _ hb => hb) I.ok.funs

theorem Inv.stack (I : Inv X pins σ H s) : s.heap.FunFrames X.base X.stack := by
  rcases I.ok.stk with e | ⟨e, hf⟩
  · rw [e]; exact I.funs
  · rw [e]
    obtain ⟨m, hn, _⟩ := I.loc
    refine .cons (by rw [I.ok.kind]; decide) hf hn ?_ I.funs
    exact Heap.get?_none_of_le (Nat.le_trans I.ok.bsz I.ok.above)
theorem Inv.stkSub (I : Inv X pins σ H s) : ∀ b ∈ frs X.stack, b ∈ X.env.locals :: X.fs := fun b hb => by
  rcases I.ok.stk with e | ⟨e, hf⟩
  · rw [e] at hb; exact List.mem_cons_of_mem _ hb
  · rw [e] at hb
    unfold frs at hb
    rw [List.filterMap_cons, hf] at hb
    exact hb
theorem Inv.stkFree (I : Inv X pins σ H s) : ∀ b ∈ frs X.stack, H b = none := fun b hb => by
  rcases List.mem_cons.mp (I.stkSub b hb) with e | hb
  · rw [e]; exact I.free
  · obtain ⟨_, o, ho, _⟩ := I.ok.funs.mem hb
    exact I.base.free b o ho (I.ok.frf b hb) fun z => I.ok.exfs b z hb

theorem Inv.step {g' : Array GenState} {t' : Nat} {d' : Drawn} {ch : List Addr} (I : Inv X pins σ H s)
    (hch : ∀ b ∈ ch, (b ∈ X.ex ∨ X.s₀.heap.objs.size ≤ b) ∧ b ≠ X.env.locals ∧ (∀ x c, X.env.cells.lookup x = some c → c ≠ b) ∧ ∀ p ∈ X.pn ++ pins, p.1 ≠ b)
    (keep : ∀ b o, b ≠ X.env.locals → b ∉ X.fs → b ∉ ch → s.heap.get? b = some o → H b = none → h'.get? b = some o)
    (slot : ∀ b o, b ≠ X.env.locals → b ∈ X.fs → b ∉ ch → s.heap.get? b = some o → H b = none → ∃ sl, h'.get? b = some { o with slots := sl }) (free : ∀ b o, b ∉ ch → s.heap.get? b = some o → H b = none → H' b = none)
    (there : ∀ b o, b ∉ ch → s.heap.get? b = some o → ∃ o', h'.get? b = some o')
    (tups : ∀ b xs, H b = some (.tup xs) → H' b = some (.tup xs)) (frzs : ∀ b o u, H b = some (.frz o u) → H' b = some (.frz o u)) (tbls : ∀ b ps, H b = some (.tbl ps) → ∃ more, H' b = some (.tbl (ps ++ more)))
    (ns : ∀ m, s.heap.Ns X.env.locals m → h'.Ns X.env.locals m) (hok : HOk X.prog X.w H' h') (hg : AllBare g') :
    Inv X pins σ H' { s with heap := h', gens := g', drawn := d', toks := t' } := by
  have neL : ∀ b o, X.s₀.heap.get? b = some o → b ≠ X.env.locals := fun b o e => Nat.ne_of_lt (Nat.lt_of_lt_of_le (Heap.lt_size e) I.ok.above)
  have neC : ∀ b o, X.s₀.heap.get? b = some o → b ∉ X.ex → b ∉ ch := fun b o e hx hb => by
    rcases (hch b hb).1 with z | z
    · exact hx z
    · exact absurd (Nat.lt_of_lt_of_le (Heap.lt_size e) z) (Nat.lt_irrefl _)
  have cellK : ∀ x c, X.env.cells.lookup x = some c → ∀ v, s.heap.IsCell c v → h'.IsCell c v := fun x c e v ⟨o, ho, hd⟩ => by
    have nch : c ∉ ch := fun z => (hch c z).2.2.1 x c e rfl
    by_cases hc : c ∈ X.fs
    · obtain ⟨sl, q⟩ := slot c o (I.cne x c e) hc nch ho (I.freeC x c e)
      exact ⟨_, q, hd⟩
    · exact ⟨o, keep c o (I.cne x c e) hc nch ho (I.freeC x c e), hd⟩
  refine ⟨I.ok, I.os, hg, ⟨fun b o e n hb hx => ?_, fun b o e n hb hx => ?_, fun b o e n hx => ?_, fun b o e hx => ?_, fun b xs e => tups b xs (I.base.tups b xs e), fun b o xs e => frzs b o xs (I.base.frzs b o xs e), fun b ps e => ?_⟩, ?_, fun x c e => ?_, ?_, fun x c e => ?_, fun p hp => ?_, hok, I.len⟩
  · exact keep b o (neL b o e) hb (neC b o e hx) (I.base.keep b o e n hb hx) (I.base.free b o e n hx)
  · obtain ⟨sl, e1⟩ := I.base.slot b o e n hb hx
    obtain ⟨sl', e2⟩ := slot b _ (neL b o e) hb (neC b o e hx) e1 (I.base.free b o e n hx)
    exact ⟨sl', e2⟩
  · obtain ⟨o', e1⟩ := I.base.there b o e hx
    exact free b o' (neC b o e hx) e1 (I.base.free b o e n hx)
  · obtain ⟨o', e1⟩ := I.base.there b o e hx
    exact there b o' (neC b o e hx) e1
  · obtain ⟨m1, e1⟩ := I.base.tbls b ps e
    obtain ⟨m2, e2⟩ := tbls b _ e1
    exact ⟨m1 ++ m2, by rw [e2, Array.append_assoc]⟩
  · obtain ⟨m, hn, hl⟩ := I.loc
    refine ⟨m, ns m hn, fun i x v e1 e2 e3 => ?_⟩
    obtain ⟨u, r, l⟩ := hl i x v e1 e2 e3
    refine ⟨u, r, ?_⟩
    rcases l with l | ⟨k, c, e, z⟩
    · exact .inl l
    · exact .inr ⟨k, c, e, cellK x c e _ z⟩
  · obtain ⟨v, z⟩ := I.cell x c e
    exact ⟨v, cellK x c e v z⟩
  · obtain ⟨m, ⟨o, _, _, ho, _⟩, _⟩ := I.loc
    exact free _ o (fun z => (hch _ z).2.1 rfl) ho I.free
  · obtain ⟨v, o, ho, hd⟩ := I.cell x c e
    exact free c o (fun z => (hch c z).2.2.1 x c e rfl) ho (I.freeC x c e)
  · obtain ⟨e, n, ne, nf, d⟩ := I.pin p hp
    have nch : p.1 ∉ ch := fun z => (hch p.1 z).2.2.2 p hp rfl
    exact ⟨keep p.1 p.2 ne nf nch e n, free p.1 p.2 nch e n, ne, nf, d⟩
theorem Inv.un {t' : Nat} (I : Inv X pins σ H s) (u : Un X.fs [] H H' s.heap h') (hok : HOk X.prog X.w H' h') : Inv X pins σ H' { s with heap := h', toks := t' } := by
  obtain ⟨m, ⟨o, es, ep, ho, r⟩, _⟩ := id I.loc
  obtain ⟨sl, hL⟩ := u.any ho I.free (by simp)
  exact I.step (g' := s.gens) (d' := s.drawn) (ch := []) (fun _ z => nomatch z) (fun b o _ hb _ e n => u.keep b o e n hb (by simp)) (fun b o _ hb _ e n => u.slot b o e n hb (by simp)) (fun b o _ e n => u.free b o e n (by simp)) (fun b o _ e => u.there b o e (by simp)) u.tups u.frzs u.tbls (fun m' hm => by
    obtain ⟨o', es', ep', ho', r'⟩ := hm
    rw [ho] at ho'; cases ho'
    exact ⟨_, es', ep', hL, r'⟩) hok I.bare
theorem Inv.call {g' : Array GenState} {t' : Nat} {d' : Drawn} {ch : List Addr} (I : Inv X pins σ H s) (u : Un (frs X.stack) ch H H' s.heap h') (hok : HOk X.prog X.w H' h') (hg : AllBare g')
    (hch : ∀ b ∈ ch, (b ∈ X.ex ∨ X.s₀.heap.objs.size ≤ b) ∧ b ≠ X.env.locals ∧ (∀ x c, X.env.cells.lookup x = some c → c ≠ b) ∧ ∀ p ∈ X.pn ++ pins, p.1 ≠ b) :
    Inv X pins σ H' { s with heap := h', gens := g', drawn := d', toks := t' } := by
  obtain ⟨m, ⟨o, es, ep, ho, r⟩, _⟩ := id I.loc
  obtain ⟨sl, hL⟩ := u.any ho I.free fun z => (hch _ z).2.1 rfl
  exact I.step (ch := ch) hch (fun b o hL hb hc e n => u.keep b o e n (fun z => (List.mem_cons.mp (I.stkSub b z)).elim hL hb) hc) (fun b o _ _ hc e n => u.any e n hc) (fun b o hc e n => u.free b o e n hc) (fun b o hc e => u.there b o e hc) u.tups u.frzs u.tbls (fun m' hm => by
    obtain ⟨o', es', ep', ho', r'⟩ := hm
    rw [ho] at ho'; cases ho'
    exact ⟨_, es', ep', hL, r'⟩) hok hg
theorem Inv.turned {t' : Nat} {it : Addr} (I : Inv X pins σ H s) (k : ∀ b o, b ≠ it → s.heap.get? b = some o → h'.get? b = some o) (hn : H it = none) (hL : it ≠ X.env.locals)
    (h1 : it ∈ X.ex ∨ X.s₀.heap.objs.size ≤ it) (h2 : ∀ x c, X.env.cells.lookup x = some c → c ≠ it) (h3 : ∀ p ∈ X.pn ++ pins, p.1 ≠ it) : Inv X pins σ H { s with heap := h', toks := t' } := by
  have nit : ∀ b u, H b = some u → b ≠ it := fun b u e z => by rw [z, hn] at e; cases e
  refine I.step (g' := s.gens) (d' := s.drawn) (ch := [it]) (fun b hb => ?_) (fun b o _ _ hc e _ => k b o (fun z => hc (by simp [z])) e) (fun b o _ _ hc e _ => ⟨o.slots, k b o (fun z => hc (by simp [z])) e⟩) (fun _ _ _ _ n => n)
    (fun b o hc e => ⟨o, k b o (fun z => hc (by simp [z])) e⟩) (fun _ _ e => e) (fun _ _ _ e => e) (fun b ps e => ⟨#[], by rw [e]; simp⟩) (fun m hm => ?_) (fun b u e => ?_) I.bare
  · have e : b = it := by simpa using hb
    subst e
    exact ⟨h1, hL, h2, h3⟩
  · obtain ⟨o, es, ep, ho, r⟩ := hm
    exact ⟨o, es, ep, k _ o (Ne.symm hL) ho, r⟩
  · refine (I.hok b u e).stay (fun c v hc q => k c v ?_ q) (fun _ q => q) fun _ _ q => q
    rcases hc with z | z
    · rw [z]; exact nit b u e
    · exact nit c _ z
theorem Inv.tok (I : Inv X pins σ H s) (t : Nat) : Inv X pins σ H { s with toks := t } := I.un (h' := s.heap) (t' := t) Un.refl I.hok
theorem Inv.kept {t' : Nat} (I : Inv X pins σ H s) (k : ∀ b u, s.heap.get? b = some u → h'.get? b = some u) : Inv X pins σ H { s with heap := h', toks := t' } := I.un (Un.kept k) (I.hok.kept k)
theorem Inv.laid {a : Addr} {o : HO} {t' : Nat} (I : Inv X pins σ H s) (k : ∀ b u, s.heap.get? b = some u → h'.get? b = some u) (hp : s.heap.objs.size ≤ a) (new : ObjOk X.prog X.w (upd H a o) h' a o) :
    Inv X pins σ (upd H a o) { s with heap := h', toks := t' } := I.un (Un.laid k hp (I.hok.fresh hp)) (I.hok.laid k hp new)
theorem Inv.write {x e : Addr} {o : HO} {t' : Nat} (I : Inv X pins σ H s) (mu : Mut (H x)) (he : e = x ∨ H e = some (.own x)) (k : ∀ b u, b ≠ e → s.heap.get? b = some u → h'.get? b = some u) (heo : ∃ u, h'.get? e = some u)
    (new : ObjOk X.prog X.w (upd H x o) h' x o) : Inv X pins σ (upd H x o) { s with heap := h', toks := t' } := I.un (Un.write mu he k heo) (I.hok.write mu he k heo new)
theorem Inv.pins_of {pins' : List (Addr × Obj)} (I : Inv X pins σ H s) (h : ∀ p ∈ pins', s.heap.get? p.1 = some p.2 ∧ H p.1 = none ∧ p.1 ≠ X.env.locals ∧ p.1 ∉ X.fs ∧ ∀ v, p.2.data ≠ .cell v) : Inv X pins' σ H s :=
  ⟨I.ok, I.os, I.bare, I.base, I.loc, I.cell, I.free, I.freeC, fun p hp => (List.mem_append.mp hp).elim (fun z => I.pin p (List.mem_append_left _ z)) (h p), I.hok, I.len⟩

theorem nodup_ix {N : List Str} (hN : N.Nodup) {i j : Nat} {x : Str} (a : N[i]? = some x) (b : N[j]? = some x) : i = j := by
  obtain ⟨h1, e1⟩ := List.getElem?_eq_some_iff.mp a
  obtain ⟨h2, e2⟩ := List.getElem?_eq_some_iff.mp b
  exact (List.getElem_inj hN).mp (e1.trans e2.symm)

theorem store_ok2 {M : Model} {A : Around} {E : Value → Shared → Prop} {i : Nat} {x : Str} {v : V} {u : Value} {Q : Unit → Shared → Prop} (I : Inv X pins σ H s) (hN : X.N.Nodup) (hi : X.N[i]? = some x) (hx : Loc X.env.scope x) (r : RelV v u)
    (h : ∀ s', Inv X pins (σ.set i (some v)) H s' → (∃ a, Heap.SameBut a s.heap s'.heap ∧ (a = X.env.locals ∨ X.env.cells.lookup x = some a)) → Q () s') (hf : X.fn x = true ∨ X.env.scope.names.lookup x = some .local := by first | exact .inl rfl | exact .inr rfl | assumption) : wpAny M A (storeName X.env x u) Q E s := by
  obtain ⟨m, hn, hl⟩ := id I.loc
  have hcls : (X.env.scope.kind == .class || (X.env.scope.kind == .module && X.env.locals != X.env.globals)) = false := by rw [I.ok.kind]; rfl
  have hiσ : i < σ.length := by rw [I.len]; exact (List.getElem?_eq_some_iff.mp hi).1
  have cne := I.cne
  have tracked : ∀ {a : Addr} {h' : Heap}, (∃ o, s.heap.get? a = some o ∧ H a = none) → Heap.SameBut a s.heap h' → HOk X.prog X.w H h' := fun {a h'} ha hs b ob e => by
    obtain ⟨_, _, hfree⟩ := ha
    refine (I.hok b ob e).stay (fun c w' hc q => (hs.2 c ?_).trans q) (fun _ q => q) fun _ _ q => q
    rintro rfl
    rcases hc with rfl | hc
    · rw [hfree] at e; cases e
    · rw [hfree] at hc; cases hc
  rcases hx with hk | hk
  · refine wpAny_storeName_local hk hn (fun h' hn' hs => ?_) hcls
    obtain ⟨oL, _, _, hoL, _⟩ := id hn
    refine h _ ⟨I.ok, I.os, I.bare, ⟨fun b o e n hb hx => ?_, fun b o e n hb hx => ?_, I.base.free, fun b o e hx => ?_, I.base.tups, I.base.frzs, I.base.tbls⟩, ⟨_, hn', fun j y v' e1 e2 e3 => ?_⟩, fun y c e => ?_, I.free, I.freeC, fun p hp => ?_, tracked ⟨oL, hoL, I.free⟩ hs, by simpa using I.len⟩ ⟨_, hs, .inl rfl⟩
    · exact (hs.2 b (Nat.ne_of_lt (Nat.lt_of_lt_of_le (Heap.lt_size e) I.ok.above))).trans (I.base.keep b o e n hb hx)
    · obtain ⟨sl, e1⟩ := I.base.slot b o e n hb hx
      exact ⟨sl, (hs.2 b (Nat.ne_of_lt (Nat.lt_of_lt_of_le (Heap.lt_size e) I.ok.above))).trans e1⟩
    · obtain ⟨o', e1⟩ := I.base.there b o e hx
      exact ⟨o', (hs.2 b (Nat.ne_of_lt (Nat.lt_of_lt_of_le (Heap.lt_size e) I.ok.above))).trans e1⟩
    · by_cases hj : j = i
      · subst hj
        rw [hi] at e1; cases e1
        rw [List.getElem?_set_self hiσ] at e2
        cases e2
        exact ⟨u, r, .inl ⟨hk, by simp⟩⟩
      · rw [List.getElem?_set_ne (Ne.symm hj)] at e2
        obtain ⟨u', r', q⟩ := hl j y v' e1 e2 e3
        refine ⟨u', r', ?_⟩
        rcases q with ⟨k, e⟩ | ⟨k, c, e, z⟩
        · refine .inl ⟨k, ?_⟩
          have : y ≠ x := fun e => hj (nodup_ix hN e1 (e ▸ hi))
          simp [this, e]
        · exact .inr ⟨k, c, e, z.sameBut hs (cne y c e)⟩
    · obtain ⟨w', z⟩ := I.cell y c e
      exact ⟨w', z.sameBut hs (cne y c e)⟩
    · obtain ⟨e, n, ne, nf, d⟩ := I.pin p hp
      exact ⟨(hs.2 p.1 ne).trans e, n, ne, nf, d⟩
  · have hfn : X.fn x = true := by
      rcases hf with z | z
      · exact z
      · rw [z] at hk; cases hk
    obtain ⟨c, hc⟩ := I.ok.has x (.inl hk)
    obtain ⟨w', z⟩ := I.cell x c hc
    refine wpAny_storeName_cell I.ok.kind hk hc z (fun h' hc' hs => ?_)
    obtain ⟨oc, hoc, hocd⟩ := id z
    refine h { s with heap := h' } ⟨I.ok, I.os, I.bare, ⟨fun b o e n hb hx => ?_, fun b o e n hb hx => ?_, I.base.free, fun b o e hx => ?_, I.base.tups, I.base.frzs, I.base.tbls⟩, ⟨m, hn.sameBut hs (Ne.symm (cne x c hc)), fun j y v' e1 e2 e3 => ?_⟩, fun y c' e => ?_, I.free, I.freeC, fun p hp => ?_, tracked ⟨oc, hoc, I.freeC x c hc⟩ hs, by simpa using I.len⟩ ⟨c, hs, .inr hc⟩
    · exact (hs.2 b (Nat.ne_of_lt (Nat.lt_of_lt_of_le (Heap.lt_size e) (I.ok.cab x c hfn hc)))).trans (I.base.keep b o e n hb hx)
    · obtain ⟨sl, e1⟩ := I.base.slot b o e n hb hx
      exact ⟨sl, (hs.2 b (Nat.ne_of_lt (Nat.lt_of_lt_of_le (Heap.lt_size e) (I.ok.cab x c hfn hc)))).trans e1⟩
    · obtain ⟨o', e1⟩ := I.base.there b o e hx
      exact ⟨o', (hs.2 b (Nat.ne_of_lt (Nat.lt_of_lt_of_le (Heap.lt_size e) (I.ok.cab x c hfn hc)))).trans e1⟩
    · by_cases hj : j = i
      · subst hj
        rw [hi] at e1; cases e1
        rw [List.getElem?_set_self hiσ] at e2
        cases e2
        exact ⟨u, r, .inr ⟨.inl hk, c, hc, hc'⟩⟩
      · rw [List.getElem?_set_ne (Ne.symm hj)] at e2
        obtain ⟨u', r', q⟩ := hl j y v' e1 e2 e3
        refine ⟨u', r', ?_⟩
        rcases q with q | ⟨k, c', e, z'⟩
        · exact .inl q
        · refine .inr ⟨k, c', e, z'.sameBut hs ?_⟩
          rintro rfl
          exact hj (nodup_ix hN e1 (I.ok.inj _ _ _ e hc ▸ hi))
    · by_cases hcc : c' = c
      · subst hcc; exact ⟨_, hc'⟩
      · obtain ⟨w2, z2⟩ := I.cell y c' e
        exact ⟨w2, z2.sameBut hs hcc⟩
    · obtain ⟨e, n, ne, nf, d⟩ := I.pin p hp
      refine ⟨(hs.2 p.1 ?_).trans e, n, ne, nf, d⟩
      intro q
      rw [q, hoc] at e
      have q' : oc = p.2 := Option.some.inj e
      exact d w' (by rw [← q']; exact hocd)
theorem store_ok {M : Model} {A : Around} {E : Value → Shared → Prop} {i : Nat} {x : Str} {v : V} {u : Value} {Q : Unit → Shared → Prop} (I : Inv X pins σ H s) (hN : X.N.Nodup) (hi : X.N[i]? = some x) (hx : Loc X.env.scope x) (r : RelV v u)
    (h : ∀ s', Inv X pins (σ.set i (some v)) H s' → Q () s') (hf : X.fn x = true ∨ X.env.scope.names.lookup x = some .local := by first | exact .inl rfl | exact .inr rfl | assumption) : wpAny M A (storeName X.env x u) Q E s :=
  store_ok2 I hN hi hx r (fun s' I' _ => h s' I') hf
theorem Inv.call' {s' : Shared} {ch : List Addr} (I : Inv X pins σ H s) (ho : s'.os = s.os) (u : Un (frs X.stack) ch H H' s.heap s'.heap) (hok : HOk X.prog X.w H' s'.heap) (hg : AllBare s'.gens)
    (hch : ∀ b ∈ ch, (b ∈ X.ex ∨ X.s₀.heap.objs.size ≤ b) ∧ b ≠ X.env.locals ∧ (∀ x c, X.env.cells.lookup x = some c → c ≠ b) ∧ ∀ p ∈ X.pn ++ pins, p.1 ≠ b) : Inv X pins σ H' s' := by
  obtain ⟨h', g', d', t', o'⟩ := s'
  have e : o' = s.os := ho
  subst e
  exact I.call (g' := g') (t' := t') (d' := d') u hok hg hch
end

abbrev XK := Value → Option Addr → Hp → Prop
abbrev St := List (Option V)
abbrev VK := V → Hp → Prop
abbrev TE := St → Hp → VK → Prop
abbrev TT := St → Hp → (Bool → Hp → Prop) → Prop
abbrev TA := St → Hp → (List V → Hp → Prop) → Prop
structure Ends where
  nx : St → Hp → Prop
  rt : VK
  bk : St → Hp → Prop := fun _ _ => False
  ct : St → Hp → Prop := fun _ _ => False
abbrev TS := Ends → St → Hp → Prop

inductive BlQ (x : V) (H : Hp) (Q : Bool → Hp → Prop) : Prop
  | mk (c : Bool) (e : x = .bl c) (q : Q c H) : BlQ x H Q
inductive AndQ (tb : TE) (σ : St) (x : V) (H : Hp) (Q : VK) : Prop
  | mk (c : Bool) (e : x = .bl c) (q : if c = true then tb σ H Q else Q (.bl false) H) : AndQ tb σ x H Q
inductive OrQ (tb : TE) (σ : St) (x : V) (H : Hp) (Q : VK) : Prop
  | mk (c : Bool) (e : x = .bl c) (q : if c = true then Q (.bl true) H else tb σ H Q) : OrQ tb σ x H Q
inductive NotQ (x : V) (H : Hp) (Q : VK) : Prop
  | mk (c : Bool) (e : x = .bl c) (q : Q (.bl (!c)) H) : NotQ x H Q
inductive IIQ (x y : V) (H : Hp) (k : Int → Int → Hp → Prop) : Prop
  | mk (i j : Int) (e : x = .int i) (e' : y = .int j) (q : k i j H) : IIQ x y H k
inductive PtQ (x : V) (H : Hp) (Q : Option Int → Hp → Prop) : Prop
  | mk (i : Int) (e : x = .int i) (q : Q (some i) H) : PtQ x H Q
inductive ParQ (i j : Nat) (N : St → Hp → Prop) (σ : St) (vs : List V) (H : Hp) : Prop
  | mk (v w : V) (e : vs = [v, w]) (q : N ((σ.set i (some v)).set j (some w)) H) : ParQ i j N σ vs H
inductive EP (X : Cx) (pins : List (Addr × Obj)) (σ : St) (Q : VK) (u : Value) (s' : Shared) : Prop
  | mk (v : V) (H' : Hp) (I : Inv X pins σ H' s') (r : RelV v u) (q : Q v H') : EP X pins σ Q u s'
inductive TP (X : Cx) (pins : List (Addr × Obj)) (σ : St) (Q : Bool → Hp → Prop) (b : Bool) (s' : Shared) : Prop
  | mk (H' : Hp) (I : Inv X pins σ H' s') (q : Q b H') : TP X pins σ Q b s'
inductive AP (X : Cx) (pins : List (Addr × Obj)) (σ : St) (Q : List V → Hp → Prop) (us : List Value) (s' : Shared) : Prop
  | mk (vs : List V) (H' : Hp) (I : Inv X pins σ H' s') (r : Vals vs us) (q : Q vs H') : AP X pins σ Q us s'
theorem EP.elim {X : Cx} {pins : List (Addr × Obj)} {σ : St} {Q : VK} {u : Value} {s' : Shared} {G : Prop} (h : EP X pins σ Q u s') (k : ∀ (v : V) (H' : Hp), Inv X pins σ H' s' → RelV v u → Q v H' → G) : G := by
  cases h with
  | mk v H' I r q => exact k v H' I r q
theorem AP.elim {X : Cx} {pins : List (Addr × Obj)} {σ : St} {Q : List V → Hp → Prop} {us : List Value} {s' : Shared} {G : Prop} (h : AP X pins σ Q us s') (k : ∀ (vs : List V) (H' : Hp), Inv X pins σ H' s' → Vals vs us → Q vs H' → G) : G := by
  cases h with
  | mk v H' I r q => exact k v H' I r q
theorem TP.elim {X : Cx} {pins : List (Addr × Obj)} {σ : St} {Q : Bool → Hp → Prop} {b : Bool} {s' : Shared} {G : Prop} (h : TP X pins σ Q b s') (k : ∀ H' : Hp, Inv X pins σ H' s' → Q b H' → G) : G := by
  cases h with
  | mk H' I q => exact k H' I q
inductive SPN (X : Cx) (pins : List (Addr × Obj)) (N : St → Hp → Prop) (s' : Shared) : Prop
  | mk (σ : St) (H' : Hp) (I : Inv X pins σ H' s') (q : N σ H') : SPN X pins N s'
inductive SPR (X : Cx) (pins : List (Addr × Obj)) (Q : VK) (u : Value) (s' : Shared) : Prop
  | mk (v : V) (σ : St) (H' : Hp) (I : Inv X pins σ H' s') (r : RelV v u) (q : Q v H') : SPR X pins Q u s'
def SP (X : Cx) (pins : List (Addr × Obj)) (D : Ends) (f : Flow) (s' : Shared) : Prop :=
  match f with
  | .next => SPN X pins D.nx s'
  | .brk => SPN X pins D.bk s'
  | .cont => SPN X pins D.ct s'
  | .ret u => SPR X pins D.rt u s'

def PE (X : Cx) (e : Expr) (t : TE) : Prop :=
  ∀ (pins : List (Addr × Obj)) (s : Shared) (σ : St) (H : Hp) (Q : VK), Inv X pins σ H s → t σ H Q → wpAny (model X.prog X.w) X.A (eval e X.env) (EP X pins σ Q) X.xe s
def PT (X : Cx) (e : Expr) (t : TT) : Prop :=
  ∀ (pins : List (Addr × Obj)) (s : Shared) (σ : St) (H : Hp) (Q : Bool → Hp → Prop), Inv X pins σ H s → t σ H Q → wpAny (model X.prog X.w) X.A (isTrue e X.env (eval e X.env)) (TP X pins σ Q) X.xe s
def PW (X : Cx) (e : Expr) (t : TT) : Prop :=
  ∀ (whole : Sem Value) (pins : List (Addr × Obj)) (s : Shared) (σ : St) (H : Hp) (Q : Bool → Hp → Prop), Inv X pins σ H s → t σ H Q → wpAny (model X.prog X.w) X.A (isTrue e X.env whole) (TP X pins σ Q) X.xe s
theorem PW.pt {X : Cx} {e : Expr} {t : TT} (h : PW X e t) : PT X e t := h _
def PA (X : Cx) (es : List Expr) (t : TA) : Prop :=
  ∀ (pos : Pos) (pins : List (Addr × Obj)) (s : Shared) (σ : St) (H : Hp) (Q : List V → Hp → Prop), Inv X pins σ H s → t σ H Q → wpAny (model X.prog X.w) X.A (spliced (backTo pos (starEach es X.env))) (AP X pins σ Q) X.xe s
def PS (X : Cx) (st : Stmt) (t : TS) : Prop :=
  ∀ (pins : List (Addr × Obj)) (s : Shared) (σ : St) (H : Hp) (D : Ends), Inv X pins σ H s → t D σ H → wpAny (model X.prog X.w) X.A (exec st X.env) (SP X pins D) X.xe s
def PSs (X : Cx) (st : List Stmt) (t : TS) : Prop :=
  ∀ (pins : List (Addr × Obj)) (s : Shared) (σ : St) (H : Hp) (D : Ends), Inv X pins σ H s → t D σ H → wpAny (model X.prog X.w) X.A (execs st X.env) (SP X pins D) X.xe s
theorem thn {α : Type} {t : Sem α} {Q Q' : α → Shared → Prop} {M : Model} {A : Around} {E : Value → Shared → Prop} {s : Shared} (h : wpAny M A t Q E s) (hQ : ∀ a s, Q a s → Q' a s) : wpAny M A t Q' E s := wpAny_mono h hQ fun _ _ x => x
end L2

namespace L2
open PySem PySem.Spec PyProof.Rows
section
variable {X : Cx}

inductive tVarI (i : Nat) (σ : St) (H : Hp) (Q : VK) : Prop
  | mk (v : _) (x0 : σ[i]? = some (some v)) (x1 : Q v H) : tVarI i σ H Q
def tVar (i : Nat) : TE := fun σ H Q => tVarI i σ H Q
def tC (v : V) : TE := fun _ H Q => Q v H
theorem pe_var {i : Nat} {x : Str} {pos : Pos} (hN : X.N[i]? = some x) (hv : Vis X.env.scope x) (hd : (x == ("__debug__" : Str)) = false := by decide) (hcd : (x == ("__classdict__" : Str)) = false := by decide) : PE X (.Name x pos) (tVar i) := by
  intro pins s σ H Q I h
  obtain ⟨v, e, h⟩ := h
  obtain ⟨m, hn, hl⟩ := I.loc
  obtain ⟨u, r, l⟩ := hl i x v hN e hv
  have fin : EP X pins σ Q u s := ⟨v, H, I, r, h⟩
  rcases l with ⟨hk, hm⟩ | ⟨hk, c, hc, hcell⟩
  · exact wpAny_Name (wpAny_loadName_local I.ok.kind hk hn hm fin) hd
  · rcases hk with hk | hk
    · exact wpAny_Name (wpAny_loadName_cell I.ok.kind hk hc hcell fin) hd
    · exact wpAny_Name (wpAny_loadName_free I.ok.kind hk hc hcell fin hcd) hd
theorem pe_int {i j pos} : PE X (.Constant (.int i) j pos) (tC (.int i)) := fun _ _ _ H _ I h => wpAny_Constant_int ⟨.int i, H, I.tok _, ⟨_, rfl⟩, h⟩
theorem pe_bl {b j pos} : PE X (.Constant (.bool b) j pos) (tC (.bl b)) := fun _ _ _ H _ I h => Constant_bool ⟨.bl b, H, I, rfl, h⟩
theorem pe_str {x j pos} : PE X (.Constant (.str x) j pos) (tC (.str x)) := fun _ _ _ H _ I h => Calls.Constant_str ⟨.str x, H, I.tok _, ⟨_, rfl⟩, h⟩

def Gl (X : Cx) (x : Str) : Prop := X.env.kindOf x = some .globalImplicit
theorem ld_glob {E : Value → Shared → Prop} {pins : List (Addr × Obj)} {s : Shared} {σ : St} {H : Hp} {x : Str} {u : Value} {pos : Pos} {Q : Value → Shared → Prop} (I : Inv X pins σ H s) (hg : Gl X x) (hm : X.mg x = some u) (h : Q u s)
    (hd : (x == ("__debug__" : Str)) = false := by decide) : wpAny (model X.prog X.w) X.A (eval (.Name x pos) X.env) Q E s :=
  Calls.Name_function_global I.ok.kind hg (Calls.loadGlobal_global (by rw [I.ok.glob]; exact I.mod.glob.keeps I.bk) hm h) hd
theorem ld_blt {E : Value → Shared → Prop} {pins : List (Addr × Obj)} {s : Shared} {σ : St} {H : Hp} {x : Str} {u : Value} {pos : Pos} {Q : Value → Shared → Prop} (I : Inv X pins σ H s) (hg : Gl X x) (hm : X.mg x = none) (hv : bootBuiltins x = some u) (h : Q u s)
    (hn : x ≠ "__name__" := by decide) (hd : (x == ("__debug__" : Str)) = false := by decide) : wpAny (model X.prog X.w) X.A (eval (.Name x pos) X.env) Q E s := by
  obtain ⟨mb, h1, h2⟩ := I.mod.blt
  exact Calls.Name_function_global I.ok.kind hg (Calls.loadGlobal_builtin (by rw [I.ok.glob]; exact I.mod.glob.keeps I.bk) hm (by rw [I.ok.blt]; exact h1.keeps I.bk) ((h2 x hn).trans hv) h) hd
theorem pe_glob {x : Str} {v : V} {u : Value} {pos : Pos} (hg : Gl X x) (hm : X.mg x = some u) (r : RelV v u) (hd : (x == ("__debug__" : Str)) = false := by decide) : PE X (.Name x pos) (tC v) :=
  fun _ _ _ H _ I h => ld_glob I hg hm ⟨v, H, I, r, h⟩ hd
theorem pe_bltn {x : Str} {v : V} {u : Value} {pos : Pos} (hg : Gl X x) (hm : X.mg x = none) (hv : bootBuiltins x = some u) (r : RelV v u) (hn : x ≠ "__name__" := by decide) (hd : (x == ("__debug__" : Str)) = false := by decide) : PE X (.Name x pos) (tC v) :=
  fun _ _ _ H _ I h => ld_blt I hg hm hv ⟨v, H, I, r, h⟩ hn hd

variable {a b : Expr} {ta tb : TE} {pos : Pos}
def tB (t : TE) : TT := fun σ H Q => t σ H fun x H1 => BlQ x H1 Q
theorem pt_val {e : Expr} {t : TE} (h : PE X e t) (he : ∀ whole, isTrue e X.env whole = (do let v ← whole; standAt e.pos; holding [v] (truthy v)) := by intro _; rfl) : PT X e (tB t) := by
  intro pins s σ H Q I hw
  refine isTrue_plain (thn (h pins s σ H _ I hw) fun v s1 zq => zq.elim fun x H1 I1 r1 q1 => ?_) (he _)
  obtain ⟨d, rfl, q⟩ := q1
  cases r1
  exact wpAny_truthy_bool ⟨H1, I1, q⟩

variable {tA tB' : TT} {rest : List Expr}
def tOr (t u : TT) : TT := fun σ H Q => t σ H fun c H1 => if c = true then Q true H1 else u σ H1 Q
def tNot (t : TT) : TT := fun σ H Q => t σ H fun c H1 => Q (!c) H1
theorem pw_or1 (ha : PT X a tA) : PW X (.BoolOp .Or [a] pos) tA := by
  intro wh pins s σ H Q I h
  refine isTrue_or (thn (ha pins s σ H Q I h) fun c s1 e => ?_)
  cases c with
  | false => exact isTrue_or_nil e
  | true => exact e
theorem pw_or (ha : PT X a tA) (hb : PW X (.BoolOp .Or (b :: rest) pos) tB') : PW X (.BoolOp .Or (a :: b :: rest) pos) (tOr tA tB') := by
  intro wh pins s σ H Q I h
  refine isTrue_or (thn (ha pins s σ H _ I h) fun c s1 zq => zq.elim fun H1 I1 q1 => ?_)
  cases c with
  | true => exact ⟨H1, I1, q1⟩
  | false => exact hb wh pins s1 σ H1 Q I1 q1
theorem pt_not (ha : PT X a tA) : PT X (.UnaryOp .Not a pos) (tNot tA) := by
  intro pins s σ H Q I h
  exact isTrue_not (thn (ha pins s σ H (fun c H1 => Q (!c) H1) I h) fun c s1 zq => zq.elim fun H1 I1 q1 => ⟨H1, I1, q1⟩)
end
end L2

namespace L2
open PySem PySem.Spec PyProof.Rows

def SqL (K : PySem.W.Frag) (H : Hp) (a : Addr) (xs : List V) : Prop :=
  Rd H a (.lst xs) ∨
    ∃ (o : Obj) (its : Array Value) (n : Nat), K.lookup a = some o ∧ o.cls = .type "list" ∧ o.dict = none ∧ o.data = .seq its n ∧ its.size ≤ sizeLine ∧ Vals xs its.toList
def SqT (K : PySem.W.Frag) (H : Hp) (a : Addr) (xs : List V) : Prop :=
  Rd H a (.tup xs) ∨
    ∃ (o : Obj) (its : Array Value) (n : Nat), K.lookup a = some o ∧ o.cls = .type "tuple" ∧ o.data = .seq its n ∧ its.size ≤ sizeLine ∧ Vals xs its.toList
def absV : Value → Option V
  | .none => some .non
  | .bool b => some (.bl b)
  | .int i _ => some (.int i)
  | .str x _ => some (.str x)
  | .bytes b _ => some (.byt b)
  | .float b _ => some (.flt b)
  | .ref a => some (.ref a)
  | .type n => some (.ty n)
  | _ => none
theorem RelV.abs {x : V} {u : Value} (r : RelV x u) : absV u = some x := by
  cases x with
  | non => cases r; rfl
  | bl _ => cases r; rfl
  | int _ => obtain ⟨t, rfl⟩ := r; rfl
  | str _ => obtain ⟨t, rfl⟩ := r; rfl
  | byt _ => obtain ⟨t, rfl⟩ := r; rfl
  | flt _ => obtain ⟨t, rfl⟩ := r; rfl
  | ref _ => cases r; rfl
  | ty _ => cases r; rfl
theorem RelV.inj {x y : V} {u : Value} (r : RelV x u) (q : RelV y u) : x = y := Option.some.inj (r.abs.symm.trans q.abs)
theorem Vals.inj {xs ys : List V} {us : List Value} (r : Vals xs us) (s : Vals ys us) : xs = ys := by
  induction r generalizing ys with
  | nil => exact (List.eq_nil_of_length_eq_zero (Paired.length s)).symm
  | cons a _ ih =>
    cases ys with
    | nil => exact absurd (Paired.length s) (Nat.succ_ne_zero _).symm
    | cons y yr =>
      obtain ⟨u, ur, e, h, t⟩ := Vals.inv s
      injection e with e1 e2
      subst e1 e2
      rw [a.inj h, ih t]
section
variable {X : Cx} {pins : List (Addr × Obj)} {σ : St} {H : Hp} {s : Shared} {a : Addr} {xs ys : List V}
theorem SqL.of {K : PySem.W.Frag} (h : H a = some (.lst xs)) : SqL K H a xs := .inl (.inl h)
theorem SqT.of {K : PySem.W.Frag} (h : H a = some (.tup xs)) : SqT K H a xs := .inl (.inl h)
theorem Inv.list (I : Inv X pins σ H s) (h : SqL X.K H a xs) : ∃ its : List Value, Vals xs its ∧ PlainL s.heap a its.toArray ∧ xs.length ≤ sizeLine := by
  rcases h with h | ⟨o, its, n, hk, hc, hd, hs, hz, r⟩
  · obtain ⟨z, its, n, r, e⟩ := h.ok I.hok
    exact ⟨its, r, ⟨_, n, e, rfl, rfl, rfl⟩, z⟩
  · refine ⟨its.toList, r, ⟨o, n, I.kIn a o hk, hc, hd, by simpa using hs⟩, ?_⟩
    have e := r.length
    simp only [Array.length_toList] at e
    omega
theorem Inv.tuple (I : Inv X pins σ H s) (h : SqT X.K H a xs) : ∃ its : List Value, Vals xs its ∧ IsTup s.heap a its.toArray ∧ xs.length ≤ sizeLine := by
  rcases h with h | ⟨o, its, n, hk, hc, hs, hz, r⟩
  · obtain ⟨z, its, r, p⟩ := h.ok I.hok
    exact ⟨its, r, p, z⟩
  · refine ⟨its.toList, r, ⟨o, I.kIn a o hk, hc, n, by simpa using hs⟩, ?_⟩
    have e := r.length
    simp only [Array.length_toList] at e
    omega
end

abbrev Cx.wish (X : Cx) (E : Value → Shared → Prop) : Cx := { X with xe := E }
abbrev Cx.nox (X : Cx) : Cx := X.wish fun _ _ => False
theorem Cx.Ok.wish {X : Cx} (ok : X.Ok) (E : Value → Shared → Prop) : (X.wish E).Ok :=
  ⟨ok.mod, ok.kind, ok.glob, ok.blt, ok.above, ok.inj, ok.has, ok.cab, ok.hd, ok.frames, ok.stk, ok.exf, ok.bs, ok.bsz, ok.noex, ok.exfs, ok.funs, ok.frf⟩
theorem Cx.Ok.unwish {X : Cx} {E : Value → Shared → Prop} (ok : (X.wish E).Ok) : X.Ok :=
  ⟨ok.mod, ok.kind, ok.glob, ok.blt, ok.above, ok.inj, ok.has, ok.cab, ok.hd, ok.frames, ok.stk, ok.exf, ok.bs, ok.bsz, ok.noex, ok.exfs, ok.funs, ok.frf⟩
section
variable {X : Cx} {pins : List (Addr × Obj)} {σ : St} {H : Hp} {s : Shared} {E : Value → Shared → Prop}
theorem Inv.wish (I : Inv X pins σ H s) (E : Value → Shared → Prop) : Inv (X.wish E) pins σ H s := ⟨I.ok.wish E, I.os, I.bare, I.base, I.loc, I.cell, I.free, I.freeC, I.pin, I.hok, I.len⟩
theorem Inv.unwish (I : Inv (X.wish E) pins σ H s) : Inv X pins σ H s := ⟨I.ok.unwish, I.os, I.bare, I.base, I.loc, I.cell, I.free, I.freeC, I.pin, I.hok, I.len⟩
theorem SP.unwish {D : Ends} {f : Flow} {s' : Shared} (h : SP (X.wish E) pins D f s') : SP X pins D f s' := by
  cases f with
  | next => obtain ⟨σ', H', I, q⟩ := h; exact ⟨σ', H', I.unwish, q⟩
  | brk => obtain ⟨σ', H', I, q⟩ := h; exact ⟨σ', H', I.unwish, q⟩
  | cont => obtain ⟨σ', H', I, q⟩ := h; exact ⟨σ', H', I.unwish, q⟩
  | ret u => obtain ⟨v, σ', H', I, r, q⟩ := h; exact ⟨v, σ', H', I.unwish, r, q⟩
theorem PE.nox {e : Expr} {t : TE} (h : PE X.nox e t) : PE X e t := fun pins s σ H Q I hw =>
  wpAny_mono (h pins s σ H Q (I.wish _) hw) (fun _ _ zq => zq.elim fun v H' I' r q => ⟨v, H', I'.unwish, r, q⟩) fun _ _ z => False.elim z
theorem PT.nox {e : Expr} {t : TT} (h : PT X.nox e t) : PT X e t := fun pins s σ H Q I hw =>
  wpAny_mono (h pins s σ H Q (I.wish _) hw) (fun _ _ zq => zq.elim fun H' I' q => ⟨H', I'.unwish, q⟩) fun _ _ z => False.elim z
theorem PSs.nox {st : List Stmt} {t : TS} (h : PSs X.nox st t) : PSs X st t := fun pins s σ H D I hw =>
  wpAny_mono (h pins s σ H D (I.wish _) hw) (fun _ _ q => q.unwish) fun _ _ z => False.elim z
end

section
variable {X : Cx} {st : Stmt} {rest : List Stmt} {t u : TS} {e : Expr} {te : TE} {pos : Pos}
def tNext : TS := fun D σ H => D.nx σ H
def tSeq (t u : TS) : TS := fun D σ H => t { D with nx := u D } σ H
theorem pss_nil : PSs X [] tNext := fun _ _ σ H _ I h => wpAny_execs_nil ⟨σ, H, I, h⟩
theorem pss_cons (h1 : PS X st t) (h2 : PSs X rest u) : PSs X (st :: rest) (tSeq t u) := by
  intro pins s σ H D I h
  refine wpAny_execs_cons (thn (h1 pins s σ H { D with nx := u D } I h) fun f s1 q => ?_)
  cases f with
  | next =>
    obtain ⟨σ', H', I', q⟩ := q
    exact h2 pins s1 σ' H' D I' q
  | ret v => exact q
  | brk => exact q
  | cont => exact q
theorem pss_one (h1 : PS X st t) : PSs X [st] t := by
  intro pins s σ H D I h
  refine wpAny_execs_cons (thn (h1 pins s σ H D I h) fun f s1 q => ?_)
  cases f with
  | next => exact wpAny_execs_nil q
  | ret v => exact q
  | brk => exact q
  | cont => exact q
theorem Inv.quiet {pins : List (Addr × Obj)} {σ : St} {H : Hp} {s : Shared} (I : Inv X pins σ H s) : interactive X.env = false := by simp [interactive, I.ok.kind]
def tRet (te : TE) : TS := fun D σ H => te σ H D.rt
theorem ps_ret (he : PE X e te) : PS X (.Return (some e) pos) (tRet te) := by
  intro pins s σ H D I h
  exact wpAny_Return_some (thn (he pins s σ H _ I h) fun v s1 zq => zq.elim fun x H1 I1 r1 q1 => ⟨x, σ, H1, I1, r1, q1⟩)
def tIfS (c : TT) (t u : TS) : TS := fun D σ H => c σ H fun b H1 => if b = true then t D σ H1 else u D σ H1
theorem ps_if {c : Expr} {a b : List Stmt} {tc : TT} (hc : PT X c tc) (ha : PSs X a t) (hb : PSs X b u) : PS X (.If c a b pos) (tIfS tc t u) := by
  intro pins s σ H D I h
  refine wpAny_If (thn (hc pins s σ H _ I h) fun d s1 zq => zq.elim fun H1 I1 q1 => ?_)
  cases d with
  | true => exact ha pins s1 σ H1 D I1 q1
  | false => exact hb pins s1 σ H1 D I1 q1
end

abbrev TG := V → St → Hp → (St → Hp → Prop) → Prop
abbrev TGs := List V → St → Hp → (St → Hp → Prop) → Prop
def PG (X : Cx) (target : Expr) (t : TG) : Prop :=
  ∀ (pins : List (Addr × Obj)) (s : Shared) (σ : St) (H : Hp) (v : V) (u : Value) (Q : St → Hp → Prop), Inv X pins σ H s → RelV v u → t v σ H Q →
    wpAny (model X.prog X.w) X.A (assign target X.env u) (fun _ s' => ∃ σ' H', Inv X pins σ' H' s' ∧ Q σ' H') X.xe s
abbrev TIp := V → V → Hp → VK → Prop
section
variable {X : Cx} {pos : Pos}
def gName (i : Nat) : TG := fun v σ H Q => Q (σ.set i (some v)) H
theorem pg_name {i : Nat} {x : Str} (hN : X.N.Nodup) (hi : X.N[i]? = some x) (hx : Loc X.env.scope x) (hf : X.fn x = true ∨ X.env.scope.names.lookup x = some .local := by first | exact .inl rfl | exact .inr rfl | assumption) : PG X (.Name x pos) (gName i) := by
  intro pins s σ H v u Q I r h
  exact wpAny_assign_Name (store_ok I hN hi hx r (fun s' I' => ⟨_, H, I', h⟩) hf)
inductive gConsI (t : TG) (u : TGs) (vs : List V) (σ : St) (H : Hp) (Q : (St → Hp → Prop)) : Prop
  | mk (v : _) (r : _) (x0 : vs = v :: r) (x1 : t v σ H fun σ' H' => u r σ' H' Q) : gConsI t u vs σ H Q
inductive gTupI (K : PySem.W.Frag) (n : Nat) (t : TGs) (v : V) (σ : St) (H : Hp) (Q : (St → Hp → Prop)) : Prop
  | mk (a : _) (xs : _) (x0 : v = .ref a) (x1 : SqT K H a xs) (x2 : xs.length = n) (x3 : t xs σ H Q) : gTupI K n t v σ H Q
def tAsg (te : TE) (g : TG) : TS := fun D σ H => te σ H fun x H1 => g x σ H1 D.nx
theorem ps_set {i : Nat} {x : Str} {e : Expr} {te : TE} {pos' : Pos} (hN : X.N.Nodup) (hi : X.N[i]? = some x) (hx : Loc X.env.scope x) (he : PE X e te) (hs : swapsWith e (some (.Name x pos')) pos.line X.env = pure false := by rfl) (hf : X.fn x = true ∨ X.env.scope.names.lookup x = some .local := by first | exact .inl rfl | exact .inr rfl | assumption) :
    PS X (.Assign [.Name x pos'] e pos) (tAsg te (gName i)) := by
  intro pins s σ H D I h
  refine wpAny_Assign_Name (thn (he pins s σ H _ I h) fun v s1 zq => zq.elim fun y H1 I1 r1 q1 => ?_) hs
  exact store_ok I1 hN hi hx r1 (fun s2 I2 => ⟨_, H1, I2, q1⟩) hf
inductive tAugI (i : Nat) (te : TE) (ti : TIp) (D : Ends) (σ : St) (H : Hp) : Prop
  | mk (x : _) (x0 : σ[i]? = some (some x)) (x1 : te σ H fun y H1 => ti x y H1 fun z H2 => D.nx (σ.set i (some z)) H2) : tAugI i te ti D σ H
inductive ipII (f : Int → Int → Int) (x : V) (y : V) (H : Hp) (Q : VK) : Prop
  | mk (i : _) (j : _) (x0 : x = .int i) (x1 : y = .int j) (x2 : Q (.int (f i j)) H) : ipII f x y H Q
end

section
variable {X : Cx} {pos : Pos}
inductive tWhileI (c : TT) (tb : TS) (D : Ends) (σ : St) (H : Hp) : Prop
  | mk (W : Nat → St → Hp → Prop) (x0 : (∃ m, W m σ H)) (x1 : ∀ m σ H, W m σ H → c σ H fun b H1 => if b = true then ∃ N : St → Hp → Prop, (∀ σ' H', N σ' H' → ∃ m', m' < m ∧ W m' σ' H') ∧ tb { D with nx := N, ct := N, bk := D.nx } σ H1 else D.nx σ H1) : tWhileI c tb D σ H
end

structure It where
  go : Nat → Hp → Prop
  yld : Nat → Hp → V → Hp → Prop
  stop : Nat → Hp → Prop
def FpOk (X : Cx) (pins : List (Addr × Obj)) (H : Hp) (b : Addr) : Prop :=
  H b = none ∧ b ≠ X.env.locals ∧ b ∉ X.fs ∧ (b ∈ X.ex ∨ X.s₀.heap.objs.size ≤ b) ∧ (∀ x c, X.env.cells.lookup x = some c → c ≠ b) ∧ ∀ p ∈ X.pn ++ pins, p.1 ≠ b
theorem Inv.fpOk {X : Cx} {pins : List (Addr × Obj)} {σ : St} {H H' : Hp} {s : Shared} {b : Addr} (I : Inv X pins σ H s) (hb : s.heap.objs.size ≤ b) (hn : H' b = none) : FpOk X pins H' b := by
  refine ⟨hn, Nat.ne_of_gt (Nat.lt_of_lt_of_le I.lt hb), I.nofs hb, .inr (Nat.le_trans I.sz hb), fun x c e z => ?_, fun p hp z => ?_⟩
  · obtain ⟨v, q⟩ := I.cell x c e
    exact absurd (Nat.lt_of_lt_of_le q.lt (by rw [z]; exact hb)) (Nat.lt_irrefl _)
  · exact absurd (Nat.lt_of_lt_of_le (Heap.lt_size (I.pin p hp).1) (by rw [z]; exact hb)) (Nat.lt_irrefl _)
structure Turn (P : Program) (w : World) (K : PySem.W.Frag) (tg : Expr) (J : It) (fp : List Addr) (it : Addr) (tn : Nat → Heap → Prop) : Prop where
  mem : it ∈ fp
  obj : ∀ i h, tn i h → ∀ b ∈ fp, ∃ o, h.get? b = some o ∧ ∀ v, o.data ≠ .cell v
  keep : ∀ i h h', tn i h → (∀ b ∈ fp, ∀ o, h.get? b = some o → h'.get? b = some o) → tn i h'
  item : ∀ (X : Cx), X.prog = P → X.w = w → X.K = K → X.calm = true → ∀ (i : Nat) (pins : List (Addr × Obj)) (s : Shared) (σ : St) (H : Hp) (E : Value → Shared → Prop), Inv X pins σ H s → (∀ b ∈ fp, FpOk X pins H b) → tn i s.heap → J.go i H →
    wpAny (model P w) X.A (pyNext (.ref it)) (fun r s1 => ∃ u, r = some u ∧
      wpAny (model P w) X.A (letOwnedTupleGo tg (.ref it) u) (fun _ s2 => ∃ x H', Inv X pins σ H' s2 ∧ RelV x u ∧ J.yld i H x H' ∧ tn (i + 1) s2.heap ∧ ∀ b ∈ fp, H' b = none) E s1) E s
  done : ∀ (X : Cx), X.prog = P → X.w = w → X.K = K → X.calm = true → ∀ (i : Nat) (pins : List (Addr × Obj)) (s : Shared) (σ : St) (H : Hp) (E : Value → Shared → Prop), Inv X pins σ H s → (∀ b ∈ fp, FpOk X pins H b) → tn i s.heap → J.stop i H →
    wpAny (model P w) X.A (pyNext (.ref it)) (fun r s1 => r = none ∧ Inv X pins σ H s1) E s
  self : ∀ (A : Around) (i : Nat) (s : Shared) (Q : Value → Shared → Prop) (E : Value → Shared → Prop), tn i s.heap → Q (.ref it) s → wpAny (model P w) A (pyIter (.ref it)) Q E s
abbrev TI := St → Hp → (It → Hp → Prop) → Prop
inductive PIE (X : Cx) (pins : List (Addr × Obj)) (σ : St) (tg : Expr) (R : It → Hp → Prop) (itv : Value) (s2 : Shared) : Prop
  | mk (it : Addr) (fp : List Addr) (tn : Nat → Heap → Prop) (J : It) (H' : Hp) (e : itv = .ref it) (I : Inv X pins σ H' s2) (t : Turn X.prog X.w X.K tg J fp it tn) (z : tn 0 s2.heap) (f : ∀ b ∈ fp, FpOk X pins H' b) (q : R J H') : PIE X pins σ tg R itv s2
def PI (X : Cx) (tg iter : Expr) (wi : TI) : Prop :=
  ∀ (pins : List (Addr × Obj)) (s : Shared) (σ : St) (H : Hp) (R : It → Hp → Prop), Inv X pins σ H s → wi σ H R →
    wpAny (model X.prog X.w) X.A (eval iter X.env) (fun v s1 => wpAny (model X.prog X.w) X.A (pyIter v) (PIE X pins σ tg R) X.xe s1) X.xe s

theorem go_of {M : Model} {A : Around} {E : Value → Shared → Prop} {s : Shared} {tg : Expr} {it : Addr} {u : Value} {o : Obj} {n : String} {vs : Array Value} {Q : Unit → Shared → Prop} (ho : s.heap.get? it = some o) (hc : o.cls = .type n) (hd : o.data = .fields vs)
    (hn : ["enumerate", "zip", "dict_itemiterator", "dict_reverseitemiterator", "odict_iterator", "itertools.zip_longest", "itertools.pairwise"].contains n = false) (hQ : Q () s) : wpAny M A (letOwnedTupleGo tg (.ref it) u) Q E s := by
  unfold letOwnedTupleGo
  cases tg <;> first
    | exact wpAny_pure hQ
    | (cases u <;> first
        | exact wpAny_pure hQ
        | (refine wpAny_bind (wpAny_load ho ?_)
           rw [hc, hd]
           show wpAny M A (if (["enumerate", "zip", "dict_itemiterator", "dict_reverseitemiterator", "odict_iterator", "itertools.zip_longest", "itertools.pairwise"].contains n && vs[0]? == some (rawInt _)) = true then _ else _) Q E s
           rw [if_neg (by intro h; rw [hn, Bool.false_and] at h; cases h)]
           exact wpAny_pure hQ))

def Itr (lo : Int) (n : Nat) : It := ⟨fun i _ => i < n, fun i H x H' => H' = H ∧ x = .int (lo + i), fun i _ => n ≤ i⟩
theorem turn_range {P : Program} {w : World} {K : PySem.W.Frag} {tg : Expr} (it : Addr) (lo : Int) (n : Nat) : Turn P w K tg (Itr lo n) [it] it (fun i h => IsRangeIter h it (lo + (i : Nat) * 1) ((n : Int) - (i : Nat)) 1) where
  mem := by simp
  obj := fun i h st b hb => by
    have e : b = it := by simpa using hb
    subst e
    exact ⟨_, st, fun v z => by
      have z' : Data.fields _ = Data.cell v := z
      cases z'⟩
  keep := fun i h h' st k => k it (by simp) _ st
  item := by
    intro X hP hw hK hc i pins s σ H E I hf st hg
    subst hP hw hK
    obtain ⟨f0, f1, f2, f3, f4, f5⟩ := hf it (by simp)
    have W := Walks.range (prog := X.prog) (w := X.w) (I.ok.hd hc) it lo 1 n
    refine W.item i s _ _ hg st fun v h' tk hv st' kk => ?_
    obtain ⟨t, rfl⟩ := hv
    have I1 : Inv X pins σ H { s with heap := h', toks := tk } := I.turned (fun b o hb e => kk b o (by simpa using hb) e) f0 f1 f3 f4 f5
    refine ⟨_, rfl, go_of (s := { s with heap := h', toks := tk }) (n := "range_iterator") st' rfl rfl (by decide) ⟨.int (lo + i), H, I1, ⟨t, ?_⟩, ⟨rfl, rfl⟩, st', fun b hb => (hf b hb).1⟩⟩
    rw [Int.mul_one]
  done := by
    intro X hP hw hK hc i pins s σ H E I hf st hg
    subst hP hw hK
    obtain ⟨f0, f1, f2, f3, f4, f5⟩ := hf it (by simp)
    exact wpAny_pyNext_range_end (I.ok.hd hc) st (by have : n ≤ i := hg; omega) fun h' eb => ⟨rfl, I.turned (t' := s.toks) (fun b o hb e => eb b o hb e) f0 f1 f3 f4 f5⟩
  self := fun _ _ _ _ _ st h => wpAny_pyIter_rangeiter st h
end L2

namespace L2
open PySem PySem.Spec PyProof.Rows
section
variable {X : Cx} {tg : Expr}
theorem range_it {pins : List (Addr × Obj)} {σ : St} {H : Hp} {s : Shared} {R : It → Hp → Prop} {E : Value → Shared → Prop} {lo hi : Int} {t u v : Tok} {tk : Nat} (I : Inv X pins σ H s) (h1 : -(2 ^ 62) ≤ lo) (h2 : lo < 2 ^ 62) (h3 : -(2 ^ 62) ≤ hi) (h4 : hi < 2 ^ 62)
    (q : R (Itr lo (hi - lo).toNat) H) : wpAny (model X.prog X.w) X.A (pyIter (.ref s.heap.objs.size)) (PIE X pins σ tg R) E { s with heap := s.heap.push { cls := .type "range", data := .fields #[.int lo t, .int hi u, .int 1 v] }, toks := tk } := by
  refine wpAny_pyIter_range (IsRange.new ..) (small_one h1 h2 h3 h4) ?_
  have I1 : Inv X pins σ H { s with heap := s.heap.push { cls := .type "range", data := .fields #[.int lo t, .int hi u, .int 1 v] }, toks := tk } := I.kept fun b o e => Heap.get?_push_of_some _ e
  refine ⟨(s.heap.push { cls := .type "range", data := .fields #[.int lo t, .int hi u, .int 1 v] }).objs.size, [(s.heap.push { cls := .type "range", data := .fields #[.int lo t, .int hi u, .int 1 v] }).objs.size], _, _, H, rfl,
    I1.kept (t' := tk) fun b o e => Heap.get?_push_of_some _ e, turn_range _ lo (hi - lo).toNat, ?_, fun b hb => ?_, q⟩
  · have e1 : lo + ((0 : Nat) : Int) * 1 = lo := by simp
    have e2 : (((hi - lo).toNat : Nat) : Int) - ((0 : Nat) : Int) = Builtin.Range.rangeSize lo hi 1 := by rw [rangeSize_one]; split <;> omega
    show IsRangeIter _ _ (lo + ((0 : Nat) : Int) * 1) ((((hi - lo).toNat : Nat) : Int) - ((0 : Nat) : Int)) 1
    rw [e1, e2]
    exact Heap.get?_push_size _ rfl
  · have e : b = (s.heap.push { cls := .type "range", data := .fields #[.int lo t, .int hi u, .int 1 v] }).objs.size := by simpa using hb
    subst e
    exact I1.fpOk (Nat.le_refl _) (I1.hok.fresh (Nat.le_refl _))
def iRng1 (ta : TA) : TI := fun σ H R => ta σ H fun vs H1 => ∃ j : Int, vs = [.int j] ∧ -(2 ^ 62) ≤ j ∧ j < 2 ^ 62 ∧ R (Itr 0 j.toNat) H1
theorem pi_range1 {a : Expr} {ta : TA} {p pos : Pos} (hg : Gl X "range") (hm : X.mg "range" = none) (ha : PA X [a] ta) (hs : starEach [a] X.env = [(false, eval a X.env)] := by rfl) : PI X tg (.Call (.Name "range" p) [a] [] pos) (iRng1 ta) := by
  intro pins s σ H R I h
  refine Call_ (ld_blt I hg hm boot_range (PyProof.Rows.callWith_type1 (thn (ha pos pins s σ H _ I h) fun us s1 zq => zq.elim fun vs H1 I1 r1 q1 => ?_) hs rfl))
  obtain ⟨j, e, q1, q2, q⟩ := q1
  subst e
  cases r1 with
  | cons r rr =>
    cases rr
    obtain ⟨t, rfl⟩ := r
    exact call_range_1 (range_it I1 (by omega) (by omega) q1 q2 (by simpa using q))
def tFor (wi : TI) (g : TG) (tb : TS) : TS := fun D σ H => wi σ H fun J H1 => ∃ W : Nat → Nat → St → Hp → Prop, (∃ m, W 0 m σ H1) ∧ ∀ i m σ H, W i m σ H →
  (J.stop i H ∧ D.nx σ H) ∨ (J.go i H ∧ ∃ N : St → Hp → Prop, (∀ σ' H', N σ' H' → ∃ m', m' < m ∧ W (i + 1) m' σ' H') ∧ ∀ x H', J.yld i H x H' → g x σ H' fun σ2 H2 => tb { D with nx := N, ct := N, bk := D.nx } σ2 H2)
def pinsAt (fp : List Addr) (h : Heap) : List (Addr × Obj) := fp.filterMap fun b => (h.get? b).map fun o => (b, o)
theorem mem_pinsAt {fp : List Addr} {h : Heap} {b : Addr} {o : Obj} (hb : b ∈ fp) (e : h.get? b = some o) : (b, o) ∈ pinsAt fp h := List.mem_filterMap.mpr ⟨b, hb, by rw [e]; rfl⟩
theorem of_pinsAt {fp : List Addr} {h : Heap} {p : Addr × Obj} (hp : p ∈ pinsAt fp h) : p.1 ∈ fp ∧ h.get? p.1 = some p.2 := by
  obtain ⟨b, hb, e⟩ := List.mem_filterMap.mp hp
  cases q : h.get? b with
  | none => rw [q] at e; cases e
  | some o =>
    rw [q] at e
    have e' : (b, o) = p := Option.some.inj e
    subst e'
    exact ⟨hb, q⟩
theorem Inv.pinned {pins : List (Addr × Obj)} {σ : St} {H : Hp} {s : Shared} {fp : List Addr} (I : Inv X pins σ H s) (hf : ∀ b ∈ fp, FpOk X pins H b) (ho : ∀ b ∈ fp, ∃ o, s.heap.get? b = some o ∧ ∀ v, o.data ≠ .cell v) : Inv X (pins ++ pinsAt fp s.heap) σ H s :=
  I.pins_of fun p hp => (List.mem_append.mp hp).elim (fun z => I.pin p (List.mem_append_right _ z)) fun z => by
    obtain ⟨hb, e⟩ := of_pinsAt z
    obtain ⟨f0, f1, f2, _⟩ := hf p.1 hb
    obtain ⟨o, e', d⟩ := ho p.1 hb
    rw [e] at e'; cases e'
    exact ⟨e, f0, f1, f2, d⟩
theorem Inv.unpinned {pins pl : List (Addr × Obj)} {σ : St} {H : Hp} {s : Shared} (I : Inv X (pins ++ pl) σ H s) : Inv X pins σ H s := I.pins_of fun p hp => I.pin p (List.mem_append_right _ (List.mem_append_left _ hp))
theorem ps_for {iter : Expr} {body : List Stmt} {wi : TI} {g : TG} {tb : TS} {pos : Pos} (hp : PassesOwn (model X.prog X.w) X.A X.env X.xe) (hc : X.calm = true) (hi : PI X tg iter wi) (hg : PG X tg g) (hb : PSs X body tb)
    (hs : ∀ x, foldedSetIterable iter X.env x = pure x := by intro _; rfl) : PS X (.For tg iter body [] pos) (tFor wi g tb) := by
  intro pins s σ H D I h
  refine wpAny_For (thn (hi pins s σ H _ I h) fun v s1 h1 => thn h1 fun itv s2 h2 => ?_) hs
  obtain ⟨it, fp, tn, J, H2, e, I2, T, st2, f2, W, ⟨m0, w0⟩, turn⟩ := h2
  subst e
  have stat : ∀ {H' : Hp}, (∀ b ∈ fp, H' b = none) → ∀ b ∈ fp, FpOk X pins H' b := fun hn b hb => ⟨hn b hb, (f2 b hb).2⟩
  refine codeAny_forLoop_any (fun n s' => ∃ i σ' H', Inv X pins σ' H' s' ∧ tn i s'.heap ∧ (∀ b ∈ fp, H' b = none) ∧ W i n σ' H') ?_ m0 ⟨0, σ, H2, I2, st2, fun b hb => (f2 b hb).1, w0⟩
  rintro n s3 ⟨i, σ3, H3, I3, st3, fr3, w3⟩
  rcases turn i n σ3 H3 w3 with ⟨stop, qn⟩ | ⟨go, N, hN, step⟩
  · refine wpAny_passesOwn hp (thn (T.done X rfl rfl rfl hc i pins s3 σ3 H3 X.xe I3 (stat fr3) st3 stop) fun r s4 ⟨hr, I4⟩ => ?_)
    subst hr
    exact wpAny_execs_nil ⟨σ3, H3, I4, qn⟩
  · refine wpAny_passesOwn hp (thn (T.item X rfl rfl rfl hc i pins s3 σ3 H3 X.xe I3 (stat fr3) st3 go) fun r s4 ⟨u, hr, h4⟩ => ?_)
    subst hr
    refine wpAny_passesOwn hp (thn h4 fun _ s5 ⟨x, H5, I5, r5, y5, st5, fr5⟩ => ?_)
    have I5' := I5.pinned (stat fr5) (T.obj _ _ st5)
    refine wpAny_passesOwn hp (thn (hg _ s5 σ3 H5 x u _ I5' r5 (step x H5 y5)) fun _ s6 ⟨σ6, H6, I6, q6⟩ => ?_)
    refine wpAny_passesOwn hp (thn (hb _ s6 σ6 H6 _ I6 q6) fun f s7 q7 => ?_)
    have again : ∀ {σ7 : St} {H7 : Hp}, Inv X (pins ++ pinsAt fp s5.heap) σ7 H7 s7 → N σ7 H7 → ∃ m, m < n ∧ ∃ i σ' H', Inv X pins σ' H' s7 ∧ tn i s7.heap ∧ (∀ b ∈ fp, H' b = none) ∧ W i m σ' H' := fun {σ7 H7} I7 n7 => by
      obtain ⟨m', hm, w7⟩ := hN σ7 H7 n7
      refine ⟨m', hm, i + 1, σ7, H7, I7.unpinned, T.keep _ _ _ st5 fun b hb o e => (I7.pin (b, o) (List.mem_append_right _ (List.mem_append_right _ (mem_pinsAt hb e)))).1, fun b hb => ?_, w7⟩
      obtain ⟨o, e, d⟩ := T.obj _ _ st5 b hb
      exact (I7.pin (b, o) (List.mem_append_right _ (List.mem_append_right _ (mem_pinsAt hb e)))).2.1
    cases f with
    | next => obtain ⟨σ7, H7, I7, n7⟩ := q7; exact again I7 n7
    | cont => obtain ⟨σ7, H7, I7, n7⟩ := q7; exact again I7 n7
    | brk => obtain ⟨σ7, H7, I7, q7⟩ := q7; exact ⟨σ7, H7, I7.unpinned, q7⟩
    | ret v => obtain ⟨x7, σ7, H7, I7, r7, q7⟩ := q7; exact ⟨x7, σ7, H7, I7.unpinned, r7, q7⟩
end

theorem for_range {lo : Int} {n : Nat} {g : TG} {tb : TS} {D : Ends} {σ : St} {H : Hp} (Pv : Nat → St → Hp → Prop) (h0 : Pv 0 σ H)
    (hs : ∀ i σ H, i < n → Pv i σ H → g (.int (lo + i)) σ H fun σ2 H2 => tb { D with nx := Pv (i + 1), ct := Pv (i + 1), bk := D.nx } σ2 H2) (hd : ∀ σ H, Pv n σ H → D.nx σ H) :
    ∃ W : Nat → Nat → St → Hp → Prop, (∃ m, W 0 m σ H) ∧ ∀ i m σ H, W i m σ H →
      ((Itr lo n).stop i H ∧ D.nx σ H) ∨ ((Itr lo n).go i H ∧ ∃ N : St → Hp → Prop, (∀ σ' H', N σ' H' → ∃ m', m' < m ∧ W (i + 1) m' σ' H') ∧ ∀ x H', (Itr lo n).yld i H x H' → g x σ H' fun σ2 H2 => tb { D with nx := N, ct := N, bk := D.nx } σ2 H2) := by
  refine ⟨fun i m σ H => m = n - i ∧ i ≤ n ∧ Pv i σ H, ⟨n, by simp, Nat.zero_le _, h0⟩, ?_⟩
  rintro i m σ H ⟨rfl, hi, p⟩
  by_cases hlt : i < n
  · refine .inr ⟨hlt, Pv (i + 1), fun σ' H' p' => ⟨n - (i + 1), by omega, rfl, hlt, p'⟩, fun x H' y => ?_⟩
    obtain ⟨e, y⟩ := y
    subst e y
    exact hs i σ _ hlt p
  · have e : i = n := by omega
    subst e
    exact .inl ⟨Nat.le_refl _, hd σ H p⟩
end L2

namespace L2
open PySem PySem.Spec PyProof.Rows

abbrev R2 := V → V → Hp → VK → Prop
def OpR (X : Cx) (f : Value → Value → Sem Value) (r : R2) : Prop :=
  ∀ (pins : List (Addr × Obj)) (s : Shared) (σ : St) (H : Hp) (x y : V) (v u : Value) (Q : VK), Inv X pins σ H s → RelV x v → RelV y u → r x y H Q →
    wpAny (model X.prog X.w) X.A (f v u) (EP X pins σ Q) X.xe s
def CallR (X : Cx) (f : Value) (r : List V → Hp → VK → Prop) : Prop :=
  ∀ (pins : List (Addr × Obj)) (s : Shared) (σ : St) (H : Hp) (xs : List V) (us : List Value) (Q : VK), Inv X pins σ H s → Vals xs us → r xs H Q →
    wpAny (model X.prog X.w) X.A (call f us) (EP X pins σ Q) X.xe s
def tOp (r : R2) (ta tb : TE) : TE := fun σ H Q => ta σ H fun x H1 => tb σ H1 fun y H2 => r x y H2 Q
inductive rII (C : Int → Int → Prop) (g : Int → Int → V) (x : V) (y : V) (H : Hp) (Q : VK) : Prop
  | mk (i : _) (j : _) (x0 : x = .int i) (x1 : y = .int j) (x2 : C i j) (x3 : Q (g i j) H) : rII C g x y H Q
def rI (C : Int → Int → Prop) (g : Int → Int → V) : R2 := fun x y H Q => rII C g x y H Q
inductive rI0I (g : Int → Int → V) (x : V) (y : V) (H : Hp) (Q : VK) : Prop
  | mk (i : _) (j : _) (x0 : x = .int i) (x1 : y = .int j) (x2 : Q (g i j) H) : rI0I g x y H Q
def rI0 (g : Int → Int → V) : R2 := fun x y H Q => rI0I g x y H Q
inductive rUI (g : Int → V) (x : V) (H : Hp) (Q : VK) : Prop
  | mk (i : _) (x0 : x = .int i) (x1 : Q (g i) H) : rUI g x H Q
section
variable {X : Cx} {a b c : Expr} {ta tb tc : TE} {pos : Pos}

theorem binT (ha : PE X a ta) (hb : PE X b tb) {pins : List (Addr × Obj)} {s : Shared} {σ : St} {H : Hp} {R : V → V → Hp → Prop} (I : Inv X pins σ H s)
    (h : ta σ H fun x H1 => tb σ H1 fun y H2 => R x y H2) {Q : Value → Shared → Prop} {f : Value → Value → Sem Value}
    (hf : ∀ v u s2 x y H2, Inv X pins σ H2 s2 → RelV x v → RelV y u → R x y H2 → wpAny (model X.prog X.w) X.A (f v u) Q X.xe s2) :
    wpAny (model X.prog X.w) X.A (eval a X.env) (fun v s₁ => wpAny (model X.prog X.w) X.A (eval b X.env) (fun u s₂ => wpAny (model X.prog X.w) X.A (f v u) Q X.xe s₂) X.xe s₁) X.xe s := by
  refine thn (ha pins s σ H _ I h) fun v s1 zq => zq.elim fun x H1 I1 r1 q1 => ?_
  refine thn (hb pins s1 σ H1 _ I1 q1) fun u s2 zq => zq.elim fun y H2 I2 r2 q2 => ?_
  exact hf v u s2 x y H2 I2 r1 r2 q2

theorem pe_op {op : Operator} {r : R2} (ho : OpR X (binaryOp op) r) (ha : PE X a ta) (hb : PE X b tb) : PE X (.BinOp a op b pos) (tOp r ta tb) := by
  intro pins s σ H Q I h
  exact wpAny_BinOp (binT ha hb I h fun v u s2 x y H2 I2 rx ry q => ho pins s2 σ H2 x y v u Q I2 rx ry q)
theorem opI {f : Value → Value → Sem Value} {C : Int → Int → Prop} {g : Int → Int → Int}
    (rule : ∀ (i j : Int) (t u : Tok) (s : Shared) (Q : Value → Shared → Prop) (E : Value → Shared → Prop), C i j → Q (.int (g i j) s.toks) { s with toks := s.toks + 1 } → wpAny (model X.prog X.w) X.A (f (.int i t) (.int j u)) Q E s) :
    OpR X f (rI C fun i j => .int (g i j)) := by
  intro pins s σ H x y v u Q I rx ry h
  obtain ⟨i, j, rfl, rfl, hc, q⟩ := h
  obtain ⟨t, rfl⟩ := rx
  obtain ⟨t', rfl⟩ := ry
  exact rule i j t t' s _ _ hc ⟨.int (g i j), H, I.tok _, ⟨_, rfl⟩, q⟩
theorem opI0 {f : Value → Value → Sem Value} {g : Int → Int → Int}
    (rule : ∀ (i j : Int) (t u : Tok) (s : Shared) (Q : Value → Shared → Prop) (E : Value → Shared → Prop), Q (.int (g i j) s.toks) { s with toks := s.toks + 1 } → wpAny (model X.prog X.w) X.A (f (.int i t) (.int j u)) Q E s) :
    OpR X f (rI0 fun i j => .int (g i j)) := by
  intro pins s σ H x y v u Q I rx ry h
  obtain ⟨i, j, rfl, rfl, q⟩ := h
  obtain ⟨t, rfl⟩ := rx
  obtain ⟨t', rfl⟩ := ry
  exact rule i j t t' s _ _ ⟨.int (g i j), H, I.tok _, ⟨_, rfl⟩, q⟩
theorem opB0 {f : Value → Value → Sem Value} {g : Int → Int → Bool}
    (rule : ∀ (i j : Int) (t u : Tok) (s : Shared) (Q : Value → Shared → Prop) (E : Value → Shared → Prop), Q (.bool (g i j)) s → wpAny (model X.prog X.w) X.A (f (.int i t) (.int j u)) Q E s) :
    OpR X f (rI0 fun i j => .bl (g i j)) := by
  intro pins s σ H x y v u Q I rx ry h
  obtain ⟨i, j, rfl, rfl, q⟩ := h
  obtain ⟨t, rfl⟩ := rx
  obtain ⟨t', rfl⟩ := ry
  exact rule i j t t' s _ _ ⟨.bl (g i j), H, I, rfl, q⟩

def CDiv (i j : Int) : Prop := 0 < j ∧ j < 1073741824
def CPow (i j : Int) : Prop := 0 ≤ j ∧ j ≤ 1000000 ∧ i.natAbs < 2 ^ 64
def CMul (i j : Int) : Prop := (-(2 ^ 64) < i ∧ i < 2 ^ 64) ∨ (-(2 ^ 64) < j ∧ j < 2 ^ 64)
theorem CMul.ok {i j : Int} (h : CMul i j) : IntMulOk i j := by
  rcases h with ⟨h1, h2⟩ | ⟨h1, h2⟩
  · exact .of_left (intBits_le_64 h1 h2)
  · exact .of_right (intBits_le_64 h1 h2)
theorem op_add : OpR X (binaryOp .Add) (rI0 fun i j => .int (i + j)) := opI0 fun _ _ _ _ _ _ _ q => add_int q
theorem op_sub : OpR X (binaryOp .Sub) (rI0 fun i j => .int (i - j)) := opI0 fun _ _ _ _ _ _ _ q => sub_int q
theorem op_mul : OpR X (binaryOp .Mult) (rI CMul fun i j => .int (i * j)) := opI fun _ _ _ _ _ _ _ hc q => mul_int q hc.ok
theorem op_mod : OpR X (binaryOp .Mod) (rI (fun _ j => 0 < j) fun i j => .int (i % j)) := opI fun i j _ _ _ _ _ hc q => by
  have h1 : (0 : Int) < j := hc
  exact mod_int' (by omega) (by rw [Int.fmod_eq_emod_of_nonneg i (by omega)]; exact q)
theorem op_pow : OpR X (binaryOp .Pow) (rI CPow fun i j => .int (i ^ j.toNat)) := opI fun _ _ _ _ _ _ _ hc q => pow_int_small hc.1 hc.2.1 hc.2.2 q
inductive r_op_add_ibI (x : V) (y : V) (H : Hp) (Q : VK) : Prop
  | mk (i : _) (k : _) (h0_ : x = .int i) (h1_ : y = .bl k) (h2_ : Q (.int (i + b2i k)) H) : r_op_add_ibI x y H Q
end

def scal : V → V → Bool
  | .non, .non => true | .non, .int _ => true | .int _, .non => true | .non, .bl _ => true | .bl _, .non => true | .non, .str _ => true | .str _, .non => true
  | .int _, .int _ => true | .bl _, .bl _ => true | .str _, .str _ => true | .byt _, .byt _ => true
  | .int _, .str _ => true | .str _, .int _ => true | .bl _, .str _ => true | .str _, .bl _ => true
  | _, _ => false
def rEq : R2 := fun x y H Q => scal x y = true ∧ Q (.bl (decide (x = y))) H
theorem dec_int {i j : Int} : decide (V.int i = V.int j) = (i == j) := by
  rw [Bool.eq_iff_iff]
  simp
theorem dec_bl {i j : Bool} : decide (V.bl i = V.bl j) = (i == j) := by
  rw [Bool.eq_iff_iff]
  simp
theorem dec_str {i j : Str} : decide (V.str i = V.str j) = (i == j) := by
  rw [Bool.eq_iff_iff]
  simp
theorem dec_byt {i j : Array UInt8} : decide (V.byt i = V.byt j) = (i.toList == j.toList) := by
  rw [Bool.eq_iff_iff]
  cases i
  cases j
  simp

section
variable {X : Cx} {a b c : Expr} {ta tb tc : TE} {pos : Pos}
theorem fin_bl {pins : List (Addr × Obj)} {σ : St} {H : Hp} {s : Shared} {Q : VK} {k k' : Bool} (I : Inv X pins σ H s) (q : Q (.bl k) H) (e : k = k') : EP X pins σ Q (.bool k') s := by
  subst e
  exact ⟨.bl k, H, I, rfl, q⟩
theorem op_eq : OpR X (compareOp .Eq) rEq := by
  intro pins s σ H x y v u Q I rx ry h
  obtain ⟨hs, q⟩ := h
  cases x with
  | non =>
    cases rx
    cases y with
    | non => cases ry; exact PySem.EqNone.eq_none_none (fin_bl I q (by simp))
    | bl j => cases ry; exact PySem.EqNone.eq_none_bool (fin_bl I q (by simp))
    | int j => obtain ⟨t', rfl⟩ := ry; exact PySem.EqNone.eq_none_int (fin_bl I q (by simp))
    | str j => obtain ⟨t', rfl⟩ := ry; exact PySem.EqNone.eq_none_str (fin_bl I q (by simp))
    | _ => exact absurd (show false = true from hs) Bool.false_ne_true
  | bl i =>
    cases rx
    cases y with
    | non => cases ry; exact PySem.EqNone.eq_bool_none (fin_bl I q (by simp))
    | bl j => cases ry; exact eq_bool (fin_bl I q dec_bl)
    | str j => obtain ⟨t', rfl⟩ := ry; exact PySem.EqMixed.eq_bool_str (fin_bl I q (by simp))
    | _ => exact absurd (show false = true from hs) Bool.false_ne_true
  | int i =>
    obtain ⟨t, rfl⟩ := rx
    cases y with
    | non => cases ry; exact PySem.EqNone.eq_int_none (fin_bl I q (by simp))
    | int j => obtain ⟨t', rfl⟩ := ry; exact eq_int (fin_bl I q dec_int)
    | str j => obtain ⟨t', rfl⟩ := ry; exact PySem.EqMixed.eq_int_str (fin_bl I q (by simp))
    | _ => exact absurd (show false = true from hs) Bool.false_ne_true
  | str i =>
    obtain ⟨t, rfl⟩ := rx
    cases y with
    | non => cases ry; exact PySem.EqNone.eq_str_none (fin_bl I q (by simp))
    | bl j => cases ry; exact PySem.EqMixed.eq_str_bool (fin_bl I q (by simp))
    | int j => obtain ⟨t', rfl⟩ := ry; exact PySem.EqMixed.eq_str_int (fin_bl I q (by simp))
    | str j => obtain ⟨t', rfl⟩ := ry; exact eq_str (fin_bl I q dec_str)
    | _ => exact absurd (show false = true from hs) Bool.false_ne_true
  | byt i =>
    obtain ⟨t, rfl⟩ := rx
    cases y with
    | byt j => obtain ⟨t', rfl⟩ := ry; exact PySem.W.eq_bytes (fin_bl I q dec_byt)
    | _ => exact absurd (show false = true from hs) Bool.false_ne_true
  | _ => cases y <;> exact absurd (show false = true from hs) Bool.false_ne_true
theorem op_lt : OpR X (compareOp .Lt) (rI0 fun i j => .bl (decide (i < j))) := opB0 fun _ _ _ _ _ _ _ q => lt_int q
inductive r_op_leI (x : V) (y : V) (H : Hp) (Q : VK) : Prop
  | mk (i : _) (j : _) (h0_ : x = .str i) (h1_ : y = .str j) (h2_ : Q (.bl (decide (i.cps.toList < j.cps.toList))) H) : r_op_leI x y H Q
inductive r_op_in_strI (x : V) (y : V) (H : Hp) (Q : VK) : Prop
  | mk (i : _) (j : _) (h0_ : x = .str i) (h1_ : y = .str j) (h2_ : Q (.bl (!(Builtin.Str.occurrences j i 0 j.length 1).isEmpty)) H) : r_op_in_strI x y H Q
inductive r_op_notin_strI (x : V) (y : V) (H : Hp) (Q : VK) : Prop
  | mk (i : _) (j : _) (h0_ : x = .str i) (h1_ : y = .str j) (h2_ : Q (.bl (!(!(Builtin.Str.occurrences j i 0 j.length 1).isEmpty))) H) : r_op_notin_strI x y H Q
def isObj : HO → Bool
  | .lst _ => true
  | .ins _ _ _ => true
  | _ => false
inductive r_op_is_refI (x : V) (y : V) (H : Hp) (Q : VK) : Prop
  | mk (a : _) (b : _) (oa : _) (ob : _) (h0_ : x = .ref a) (h1_ : y = .ref b) (h2_ : H a = some oa) (h3_ : isObj oa = true) (h4_ : H b = some ob) (h5_ : isObj ob = true) (h6_ : Q (.bl (decide (a = b))) H) : r_op_is_refI x y H Q
inductive r_op_isnot_refI (x : V) (y : V) (H : Hp) (Q : VK) : Prop
  | mk (a : _) (b : _) (oa : _) (ob : _) (h0_ : x = .ref a) (h1_ : y = .ref b) (h2_ : H a = some oa) (h3_ : isObj oa = true) (h4_ : H b = some ob) (h5_ : isObj ob = true) (h6_ : Q (.bl (!decide (a = b))) H) : r_op_isnot_refI x y H Q
theorem OpR.or {f : Value → Value → Sem Value} {r r' : R2} (h : OpR X f r) (h' : OpR X f r') : OpR X f (fun x y H Q => r x y H Q ∨ r' x y H Q) := by
  intro pins s σ H x y v u Q I rx ry q
  rcases q with q | q
  · exact h pins s σ H x y v u Q I rx ry q
  · exact h' pins s σ H x y v u Q I rx ry q

theorem nomark (b : Expr) {op : CmpOp} (h : op ≠ .In := by decide) (h2 : op ≠ .NotIn := by decide) : behindInMarks op b = false := by
  have e1 : (op == CmpOp.In) = false := by cases op <;> first | rfl | exact absurd rfl h
  have e2 : (op == CmpOp.NotIn) = false := by cases op <;> first | rfl | exact absurd rfl h2
  cases b <;> simp [behindInMarks, e1, e2]
theorem pe_cmpR {op : CmpOp} {r : R2} (ho : OpR X (compareOp op) r) (ha : PE X a ta) (hb : PE X b tb) (hm : behindInMarks op b = false) : PE X (.Compare a [op] [b] pos) (tOp r ta tb) := by
  intro pins s σ H Q I h
  exact wpAny_Compare1 (binT ha hb I h fun v u s2 x y H2 I2 rx ry q => ho pins s2 σ H2 x y v u Q I2 rx ry q) hm
def tTest (t : TE) : TT := fun σ H Q => t σ H fun x H' => BlQ x H' Q
theorem pt_cmpR {op : CmpOp} {r : R2} (ho : OpR X (compareOp op) r) (ha : PE X a ta) (hb : PE X b tb) (hm : behindInMarks op b = false) : PT X (.Compare a [op] [b] pos) (tTest (tOp r ta tb)) := by
  intro pins s σ H Q I h
  refine wpAny_isTrue_Compare1 (thn (ha pins s σ H _ I h) fun v s1 zq => zq.elim fun x H1 I1 r1 q1 => thn (hb pins s1 σ H1 _ I1 q1) fun u s2 ⟨y, H2, I2, r2, q2⟩ =>
    thn (ho pins s2 σ H2 x y v u _ I2 r1 r2 q2) fun c s3 ⟨z, H3, I3, r3, k, e, q3⟩ => ?_) hm
  subst e
  cases r3
  exact wpAny_truthy_bool ⟨H3, I3, q3⟩
theorem line63 : (sizeLine : Nat) < 2 ^ 63 := by rw [sizeLine_eq]; decide
inductive r_op_add_strI (x : V) (y : V) (H : Hp) (Q : VK) : Prop
  | mk (i : _) (j : _) (h0_ : x = .str i) (h1_ : y = .str j) (h2_ : i.length + j.length ≤ sizeLine) (h3_ : Q (.str (i ++ j)) H) : r_op_add_strI x y H Q
inductive r_iop_add_strI (x : V) (y : V) (H : Hp) (Q : VK) : Prop
  | mk (i : _) (j : _) (h0_ : x = .str i) (h1_ : y = .str j) (h2_ : i.length + j.length ≤ sizeLine) (h3_ : Q (.str (i ++ j)) H) : r_iop_add_strI x y H Q
inductive r_op_add_bytI (x : V) (y : V) (H : Hp) (Q : VK) : Prop
  | mk (i : _) (j : _) (h0_ : x = .byt i) (h1_ : y = .byt j) (h2_ : i.size + j.size ≤ 16777216) (h3_ : Q (.byt (i ++ j)) H) : r_op_add_bytI x y H Q
theorem vals1 {x : V} {us : List Value} (r : Vals [x] us) : ∃ u, us = [u] ∧ RelV x u := by
  cases r with
  | cons r1 r2 => cases r2; exact ⟨_, rfl, r1⟩
theorem vals2 {x y : V} {us : List Value} (r : Vals [x, y] us) : ∃ u w', us = [u, w'] ∧ RelV x u ∧ RelV y w' := by
  cases r with
  | cons r1 r2 =>
    cases r2 with
    | cons r3 r4 => cases r4; exact ⟨_, _, rfl, r1, r3⟩
inductive r_call_absI (xs : List V) (H : Hp) (Q : VK) : Prop
  | mk (i : _) (h0_ : xs = [.int i]) (h1_ : Q (.int (if i < 0 then -i else i)) H) : r_call_absI xs H Q
inductive r_call_max2I (xs : List V) (H : Hp) (Q : VK) : Prop
  | mk (i : _) (j : _) (h0_ : xs = [.int i, .int j]) (h1_ : Q (.int (if j > i then j else i)) H) : r_call_max2I xs H Q
def r_call_max2 : List V → Hp → VK → Prop := fun xs H Q => r_call_max2I xs H Q
theorem call_max2 (hc : X.calm = true) : CallR X (.builtin "max") r_call_max2 := by
  intro pins s σ H xs us Q I r h
  obtain ⟨i, j, rfl, q⟩ := h
  obtain ⟨u, w', rfl, ⟨t, rfl⟩, ⟨t', rfl⟩⟩ := vals2 r
  refine max_two_ints (I.ok.hd hc) fun h' tk k => ⟨_, H, I.kept k, ?_, q⟩
  by_cases hj : j > i
  · rw [if_pos hj, if_pos hj]; exact ⟨_, rfl⟩
  · rw [if_neg hj, if_neg hj]; exact ⟨_, rfl⟩
inductive r_call_min2I (xs : List V) (H : Hp) (Q : VK) : Prop
  | mk (i : _) (j : _) (h0_ : xs = [.int i, .int j]) (h1_ : Q (.int (if j < i then j else i)) H) : r_call_min2I xs H Q
def r_call_min2 : List V → Hp → VK → Prop := fun xs H Q => r_call_min2I xs H Q
theorem call_min2 (hc : X.calm = true) : CallR X (.builtin "min") r_call_min2 := by
  intro pins s σ H xs us Q I r h
  obtain ⟨i, j, rfl, q⟩ := h
  obtain ⟨u, w', rfl, ⟨t, rfl⟩, ⟨t', rfl⟩⟩ := vals2 r
  refine min_two_ints (I.ok.hd hc) fun h' tk k => ⟨_, H, I.kept k, ?_, q⟩
  by_cases hj : j < i
  · rw [if_pos hj, if_pos hj]; exact ⟨_, rfl⟩
  · rw [if_neg hj, if_neg hj]; exact ⟨_, rfl⟩
inductive r_call_str_intI (xs : List V) (H : Hp) (Q : VK) : Prop
  | mk (i : _) (h0_ : xs = [.int i]) (h1_ : i.natAbs.log2 < 1920) (h2_ : Q (.str (toString i)) H) : r_call_str_intI xs H Q
inductive r_call_ordI (xs : List V) (H : Hp) (Q : VK) : Prop
  | mk (x : _) (h0_ : xs = [.str x]) (h1_ : x.length = 1) (h2_ : Q (.int (x.cps.getD 0 0 : Nat)) H) : r_call_ordI xs H Q
inductive r_call_chrI (xs : List V) (H : Hp) (Q : VK) : Prop
  | mk (i : _) (h0_ : xs = [.int i]) (h1_ : 0 ≤ i) (h2_ : i ≤ 1114111) (h3_ : Q (.str ⟨#[i.toNat]⟩) H) : r_call_chrI xs H Q
def LenV (K : PySem.W.Frag) (x : V) (H : Hp) (n : Nat) : Prop :=
  match x with
  | .str y => y.length ≤ sizeLine ∧ n = y.length
  | .byt y => y.size ≤ sizeLine ∧ n = y.size
  | .ref p => (∃ xs, SqL K H p xs ∧ n = xs.length) ∨ ∃ xs, SqT K H p xs ∧ n = xs.length
  | _ => False
inductive r_call_lenI (K : PySem.W.Frag) (xs : List V) (H : Hp) (Q : VK) : Prop
  | mk (x : _) (n : _) (h0_ : xs = [x]) (h1_ : LenV K x H n) (h2_ : Q (.int n) H) : r_call_lenI K xs H Q
inductive r_call_divmodI (xs : List V) (H : Hp) (Q : VK) : Prop
  | mk (i : _) (j : _) (h0_ : xs = [.int i, .int j]) (h1_ : CDiv i j) (h2_ : ∀ p, H p = none → Q (.ref p) (upd H p (.tup [.int (i / j), .int (i % j)]))) : r_call_divmodI xs H Q
end
end L2

namespace L2
open PySem PySem.Spec PyProof.Rows

structure ObjM (h : Heap) (x dx C : Addr) (mA : Str → Option Value) : Prop where
  obj : h.get? x = some (PySem.W.instObj C dx)
  ns : h.Ns1 dx mA
  ne : dx ≠ x

theorem lookIn_ns {h : Heap} {dx : Addr} {mA : Str → Option Value} (n : h.Ns1 dx mA) : ∃ od, h.get? dx = some od ∧ ∀ name, PySem.W.lookIn name od = some (mA name) := by
  obtain ⟨o, es, ep, ho, hd, hk, _, hm⟩ := n
  refine ⟨o, ho, fun name => ?_⟩
  have e := hm name
  unfold nsFind findBy at e
  rw [← Array.find?_toList] at e
  unfold PySem.W.lookIn
  rw [hd]
  dsimp only
  split
  · rename_i y q
    rw [q] at e
    exact congrArg some e
  · rename_i q
    rw [q] at e
    have a : es.toList.any (·.refKey) = false := by
      rw [List.any_eq_false]
      intro y hy
      obtain ⟨z, t, hkey⟩ := hk y (Array.mem_toList_iff.mp hy)
      simp [DictEntry.refKey, hkey]
    have a' : ¬ es.toList.any (·.refKey) = true := by rw [a]; exact Bool.false_ne_true
    rw [if_neg a']
    exact congrArg some e

theorem ObjM.look {h : Heap} {x dx C : Addr} {mA : Str → Option Value} (I : ObjM h x dx C mA) : ∃ od, PySem.W.InstAt h x (PySem.W.instObj C dx) C (some od) ∧ ∀ name, PySem.W.lookIn name od = some (mA name) :=
  let ⟨od, ho, hl⟩ := lookIn_ns I.ns
  ⟨od, ⟨I.obj, rfl, rfl, ho⟩, hl⟩

section
variable {prog : Program} {w : World} {A : Around} {E : Value → Shared → Prop} {s : Shared} {K : PySem.W.Frag} {x dx C f : Addr} {mA : Str → Option Value} {name : Str} {v : Value}

end

theorem RelO.none_of {o : Option Value} (r : RelO none o) : o = none := by
  cases o with
  | none => rfl
  | some u => exact (show False from r).elim
section
variable {P : Program} {w : World} {H H' : Hp} {h h' : Heap} {a C dx : Addr} {fs fs' : List (Str × V)}
end

structure Cls (K : PySem.W.Frag) (C : Addr) : Prop where
  pg : PySem.W.plainGet K C Str.empty = true
  hd : PySem.W.hasDictIn K C = true
  po : PySem.W.plainOver K C = true
  sa : PySem.W.findIn K (.ref C) "__setattr__" = some (some (.builtin "object.__setattr__"))
theorem Cls.get {K : PySem.W.Frag} {C : Addr} (c : Cls K C) (f : Str) : PySem.W.plainGet K C f = true := c.pg
structure Con (K : PySem.W.Frag) (C : Addr) (f : Str) (v : V) (u : Value) : Prop where
  at_ : PySem.W.findIn K (.ref C) f = some (some u)
  rel : RelV v u
  get : PySem.W.specialIn K u "__get__" = some none
  cp : PySem.W.copiedNames.contains f = false
structure Meth (K : PySem.W.Frag) (C : Addr) (m : Str) (f : Addr) : Prop where
  at_ : PySem.W.findIn K (.ref C) m = some (some (.ref f))
  fn : PySem.W.isFn K (.ref f) = true
  kp : PySem.W.keepIn K (.ref f) = true

section
variable {X : Cx} {pins : List (Addr × Obj)} {σ : St} {H : Hp} {s : Shared} {a C dx : Addr} {fs : List (Str × V)} {f : Str} {v : V} {A : Around} {E : Value → Shared → Prop}

theorem Inv.made (I : Inv X pins σ H s) : Inv X pins σ (upd (upd H s.heap.objs.size (.own (s.heap.objs.size + 1))) (s.heap.objs.size + 1) (.ins C s.heap.objs.size []))
    { s with heap := (s.heap.push PySem.W.emptyDict).push (PySem.W.instObj C s.heap.objs.size) } := by
  have e1 : (s.heap.push PySem.W.emptyDict).get? s.heap.objs.size = some PySem.W.emptyDict := Heap.get?_push_size s.heap rfl
  have e2 : ((s.heap.push PySem.W.emptyDict).push (PySem.W.instObj C s.heap.objs.size)).get? (s.heap.objs.size + 1) = some (PySem.W.instObj C s.heap.objs.size) := by
    have := Heap.get?_push_size (s.heap.push PySem.W.emptyDict) (o := PySem.W.instObj C s.heap.objs.size) rfl
    rwa [Heap.size_push] at this
  have e3 : (s.heap.push PySem.W.emptyDict).Ns s.heap.objs.size (fun _ => none) := ⟨PySem.W.emptyDict, #[], _, e1, rfl, (fun e he => absurd he (by simp)), fun _ => rfl⟩
  have I1 := I.laid (a := s.heap.objs.size) (o := .own (s.heap.objs.size + 1)) (h' := s.heap.push PySem.W.emptyDict) (t' := s.toks) (fun b u q => Heap.get?_push_of_some _ q) (Nat.le_refl _) ⟨_, e1⟩
  refine I1.laid (a := s.heap.objs.size + 1) (o := .ins C s.heap.objs.size []) (t' := s.toks) (fun b u q => Heap.get?_push_of_some _ q) (Nat.le_of_eq (Heap.size_push _ _)) ?_
  have ne : s.heap.objs.size ≠ s.heap.objs.size + 1 := Nat.ne_of_lt (Nat.lt_succ_self _)
  refine ⟨by rw [upd_ne ne, upd_same], Nat.zero_le _, ne, e2, fun _ => none, (Heap.Ns1.of_empty e3).at fun o q => Heap.get?_push_of_some _ q, fun _ => True.intro, fun y hy => absurd rfl hy⟩

theorem attr_of {prog : Program} {w : World} {env : Env} {e : Expr} {f : Str} {pos : Pos} {s : Shared} {Q : Value → Shared → Prop} (hb : attributeBase e f env (eval e env) = eval e env)
    (h : wpAny (model prog w) A (eval e env) (fun o s₁ => wpAny (model prog w) A (getAttr o f true) Q E s₁) E s) : wpAny (model prog w) A (eval (.Attribute e f pos) env) Q E s :=
  Attribute_any_ h (by rw [arm_eval_Attribute, hb])
end

section
variable {X : Cx} {o e value : Expr} {f : Str} {pos pos' tpos : Pos} {ta tv : TE}
inductive rAddI (x : V) (y : V) (H : Hp) (Q : VK) : Prop
  | mk (i : _) (j : _) (x0 : x = .int i) (x1 : y = .int j) (x2 : Q (.int (i + j)) H) : rAddI  x y H Q
inductive rSubI (x : V) (y : V) (H : Hp) (Q : VK) : Prop
  | mk (i : _) (j : _) (x0 : x = .int i) (x1 : y = .int j) (x2 : Q (.int (i - j)) H) : rSubI  x y H Q
end

section
variable {X : Cx} {pins : List (Addr × Obj)} {σ : St} {H : Hp} {s : Shared} {A : Around} {E : Value → Shared → Prop} {Q : Value → Shared → Prop} {c : Value} {b : Bool}
inductive TyOf (K : PySem.W.Frag) (H : Hp) : V → Value → Prop where
  | non : TyOf K H .non (.type "NoneType")
  | bl (x : Bool) : TyOf K H (.bl x) (.type "bool")
  | int (i : Int) : TyOf K H (.int i) (.type "int")
  | str (x : Str) : TyOf K H (.str x) (.type "str")
  | flt (x : UInt64) : TyOf K H (.flt x) (.type "float")
  | lst {a : Addr} {xs : List V} (e : H a = some (.lst xs)) : TyOf K H (.ref a) (.type "list")
  | frz {a : Addr} {o : Obj} {xs : List V} (e : H a = some (.frz o (.lst xs))) : TyOf K H (.ref a) (.type "list")
  | tup {a : Addr} {xs : List V} (e : H a = some (.tup xs)) : TyOf K H (.ref a) (.type "tuple")
  | dK {a : Addr} {kvs : List (Key × V)} (e : H a = some (.dK kvs)) : TyOf K H (.ref a) (.type "dict")
  | dT {a : Addr} {kvs : List (List Key × V)} (e : H a = some (.dT kvs)) : TyOf K H (.ref a) (.type "dict")
  | ins {a C dx : Addr} {fs : List (Str × V)} (e : H a = some (.ins C dx fs)) (cl : Cls K C) (ha : PySem.W.findIn K (.ref C) "__class__" = some (some (.builtin "object.__class__")))
      (hn : PySem.W.specialIn K (.builtin "object.__class__") "__get__" = some (some (.builtin "getset_descriptor.__get__"))) (htk : PySem.W.takesIn K (.builtin "object.__class__") = some true)
      (hm : PySem.W.mroIn K C (.type "object") = some true) : TyOf K H (.ref a) (.ref C)
end
end L2

namespace L2
open PySem PySem.Spec PyProof.Rows

structure Room (k : Nat) (A : Around) : Prop where
  hd : A.handled = none
  dp : A.depth + 3 * k + 5 < recursionLimit
  un : A.units + 16 * k + 200 < cLine
  gd : A.guards = some []
theorem Room.mono {j k : Nat} {A : Around} (r : Room k A) (h : j ≤ k) : Room j A := ⟨r.hd, by have := r.dp; omega, by have := r.un; omega, r.gd⟩
theorem Room.deeper {k : Nat} {A : Around} (r : Room (k + 1) A) (env : Env) : Room k (A.deeper env) :=
  ⟨r.hd, by have := r.dp; show A.depth + 1 + 3 * k + 5 < _; omega, by have := r.un; show A.units + 3 + 16 * k + 200 < _; omega, r.gd⟩
theorem Room.in1 {k : Nat} {A : Around} (r : Room (k + 1) A) : Room k A.in1 :=
  ⟨r.hd, by have := r.dp; show A.depth + 3 * k + 5 < _; omega, by have := r.un; show A.units + 1 + 16 * k + 200 < _; omega, r.gd⟩
theorem make_depth {A : Around} {C : Addr} {us : List Value} {kw : List (Str × Value)} : (A.under (.builtin "type.__call__" ⟨.ref C :: us, kw⟩)).depth = A.depth + 1 := by
  first | rfl | simp [Around.under, Code.weight, Code.isCreation, Code.isGuard, Code.isCaller, Code.frames, Code.isFrame, guardIds]
theorem make_units {A : Around} {C : Addr} {us : List Value} {kw : List (Str × Value)} : (A.under (.builtin "type.__call__" ⟨.ref C :: us, kw⟩)).units = A.units + 1 := by
  first | rfl | simp [Around.under, Code.cUnits, Code.frames, Code.isFrame]
theorem make_guards {A : Around} {C : Addr} {us : List Value} {kw : List (Str × Value)} : (A.under (.builtin "type.__call__" ⟨.ref C :: us, kw⟩)).guards = A.guards := by
  have e : (Code.builtin "type.__call__" ⟨.ref C :: us, kw⟩).isGuard = false := by show guardIds.contains "type.__call__" = false; decide +kernel
  obtain ⟨a, b, c, g, d⟩ := A
  cases g <;> simp [Around.under, Code.guards, e, pushGuards]
theorem Room.make {k : Nat} {A : Around} (r : Room (k + 1) A) (C : Addr) (us : List Value) (kw : List (Str × Value)) : Room k (A.under (.builtin "type.__call__" ⟨.ref C :: us, kw⟩)) :=
  ⟨r.hd, by have := r.dp; rw [make_depth]; omega, by have := r.un; rw [make_units]; omega, by rw [make_guards]; exact r.gd⟩
theorem Room.depth {k : Nat} {A : Around} (r : Room k A) : A.depth < recursionLimit := by have := r.dp; omega
theorem Room.units {k : Nat} {A : Around} (r : Room k A) : A.units + 64 < cLine := by have := r.un; omega
theorem Room.units0 {k : Nat} {A : Around} (r : Room k A) : A.units < cLine := by have := r.un; omega

def tNil : TA := fun _ H Q => Q [] H
def tCons (ta : TE) (tr : TA) : TA := fun σ H Q => ta σ H fun x H1 => tr σ H1 fun xs H2 => Q (x :: xs) H2
section
variable {X : Cx} {e : Expr} {es : List Expr} {te : TE} {t : TA} {pos : Pos}
theorem pa_nil : PA X [] tNil := fun _ _ _ _ H Q I h => Calls.spliced_nil ⟨[], H, I, .nil, h⟩
theorem pa_cons (ha : PE X e te) (hr : PA X es t) (hs : starEach (e :: es) X.env = (false, eval e X.env) :: starEach es X.env := by rfl) : PA X (e :: es) (tCons te t) := by
  intro pos pins s σ H Q I h
  rw [hs]
  show wpAny _ _ (spliced ((false, eval e X.env) :: backTo pos (starEach es X.env))) _ _ s
  refine Calls.spliced_cons (thn (ha pins s σ H _ I h) fun u s1 zq => zq.elim fun x H1 I1 r1 q1 => ?_)
  exact thn (hr pos pins s1 σ H1 _ I1 q1) fun us s2 zq => zq.elim fun xs H2 I2 r2 q2 => ⟨x :: xs, H2, I2, .cons r1 r2, q2⟩

def tLst (t : TA) : TE := fun σ H Q => t σ H fun xs H1 => xs.length ≤ sizeLine ∧ ∀ p, H1 p = none → Q (.ref p) (upd H1 p (.lst xs))
theorem pe_lst (h : PA X es t) : PE X (.List es pos) (tLst t) := by
  intro pins s σ H Q I hq
  refine wpAny_List_spliced (thn (h pos pins s σ H _ I hq) fun us s1 ⟨xs, H1, I1, r, z, q⟩ => ⟨by rw [← r.length]; exact z, ?_⟩)
  have hf : H1 s1.heap.objs.size = none := I1.hok.fresh (Nat.le_refl _)
  refine ⟨.ref s1.heap.objs.size, upd H1 s1.heap.objs.size (.lst xs), I1.laid (t' := s1.toks) (fun b u e => Heap.get?_push_of_some _ e) (Nat.le_refl _) ?_, rfl, q _ hf⟩
  exact ⟨z, us, 0, r, Heap.get?_push_size _ rfl⟩
end

abbrev Sp := List V → Hp → VK → XK → Prop
abbrev CXT := List Env → Hp → Shared → XK → Value → Shared → Prop

structure Env0 (P : Program) (w : World) (K : PySem.W.Frag) (mg : Str → Option Value) (base : Heap) (A : Around) (outer : List Env) (s : Shared) (H : Hp) : Prop where
  frames : A.frames = some outer
  mod : Mod K mg base
  bs : ∀ b o, base.get? b = some o → s.heap.get? b = some o ∧ H b = none
  bsz : base.objs.size ≤ s.heap.objs.size
  funs : s.heap.FunFrames base outer
  frf : ∀ b ∈ frs outer, H b = none
  hok : HOk P w H s.heap
  bare : AllBare s.gens
inductive CE (outer : List Env) (P : Program) (w : World) (H : Hp) (s : Shared) (Q : VK) (u : Value) (s' : Shared) : Prop
  | mk (v : V) (H' : Hp) (os : s'.os = s.os) (bare : AllBare s'.gens) (un : Un (frs outer) [] H H' s.heap s'.heap) (hok : HOk P w H' s'.heap) (r : RelV v u) (q : Q v H') : CE outer P w H s Q u s'
def CR (CX : CXT) (outer : List Env) (P : Program) (w : World) (H : Hp) (s : Shared) (Q : VK) (E : XK) (r : Result) (s' : Shared) : Prop :=
  match r with
  | .ok (.ret u) => CE outer P w H s Q u s'
  | .ok _ => False
  | .error e => CX outer H s E e s'
structure FnOk (P : Program) (w : World) (K : PySem.W.Frag) (mg : Str → Option Value) (base : Heap) (CX : CXT) (k : Nat) (f : Addr) (fd : FuncData) (ps : List Str) (sp : Sp) : Prop where
  len : ∀ vs H Q E, sp vs H Q E → vs.length = ps.length
  run : ∀ (A : Around) (outer : List Env) (s : Shared) (H : Hp) (args : Args) (us : List Value) (vs : List V) (Q : VK) (E : XK), Room k A → Env0 P w K mg base A outer s H → BindsTo s fd args (ps.zip us) → Vals vs us → sp vs H Q E →
    codeAny (model P w) A (.call (.ref f) args) (CR CX outer P w H s Q E) s
theorem FnOk.mono {P : Program} {w : World} {K : PySem.W.Frag} {mg : Str → Option Value} {base : Heap} {CX : CXT} {j k : Nat} {f : Addr} {fd : FuncData} {ps : List Str} {sp : Sp} (F : FnOk P w K mg base CX j f fd ps sp) (h : j ≤ k) :
    FnOk P w K mg base CX k f fd ps sp := ⟨F.len, fun A outer s H args us vs Q E hr => F.run A outer s H args us vs Q E (hr.mono h)⟩
theorem FnOk.imp {P : Program} {w : World} {K : PySem.W.Frag} {mg : Str → Option Value} {base : Heap} {CX : CXT} {k : Nat} {f : Addr} {fd : FuncData} {ps : List Str} {sp sp' : Sp} (F : FnOk P w K mg base CX k f fd ps sp)
    (h : ∀ vs H Q E, sp' vs H Q E → sp vs H Q E) : FnOk P w K mg base CX k f fd ps sp' :=
  ⟨fun vs H Q E q => F.len vs H Q E (h _ _ _ _ q), fun A outer s H args us vs Q E hr he hb hv hs => F.run A outer s H args us vs Q E hr he hb hv (h _ _ _ _ hs)⟩

theorem Env0.make {P : Program} {w : World} {K : PySem.W.Frag} {mg : Str → Option Value} {base : Heap} {A : Around} {outer : List Env} {s : Shared} {H : Hp} (e : Env0 P w K mg base A outer s H) (C : Addr) (us : List Value) (kw : List (Str × Value)) :
    Env0 P w K mg base (A.under (.builtin "type.__call__" ⟨.ref C :: us, kw⟩)) outer s H := ⟨by first | exact e.frames | (simpa [Around.under, Code.envs, Code.isFrame, pushEnvs] using e.frames), e.mod, e.bs, e.bsz, e.funs, e.frf, e.hok, e.bare⟩
theorem Env0.in1 {P : Program} {w : World} {K : PySem.W.Frag} {mg : Str → Option Value} {base : Heap} {A : Around} {outer : List Env} {s : Shared} {H : Hp} (e : Env0 P w K mg base A outer s H) :
    Env0 P w K mg base A.in1 outer s H := ⟨e.frames, e.mod, e.bs, e.bsz, e.funs, e.frf, e.hok, e.bare⟩

section
variable {X : Cx} {pins : List (Addr × Obj)} {σ : St} {H : Hp} {s s' : Shared}
theorem Inv.env0 (I : Inv X pins σ H s) : Env0 X.prog X.w X.K X.mg X.base X.A X.stack s H :=
  ⟨I.ok.frames, I.ok.mod, I.bs, Nat.le_trans I.ok.bsz I.sz, I.stack, I.stkFree, I.hok, I.bare⟩
theorem Inv.after {Q : VK} {u : Value} (I : Inv X pins σ H s) (h : CE X.stack X.prog X.w H s Q u s') : EP X pins σ Q u s' := by
  obtain ⟨v, H', os, bare, un, hok, r, q⟩ := h
  obtain ⟨hh, g, d, t, os'⟩ := s'
  obtain rfl : os' = s.os := os
  exact ⟨v, H', I.call (h' := hh) (g' := g) (d' := d) (t' := t) (ch := []) un hok bare (fun b z => absurd z (by simp)), r, q⟩
end

def tCall (sp : Sp) (dvs : List V) (E : XK) (t : TA) : TE := fun σ H Q => t σ H fun vs H1 => sp (vs ++ dvs) H1 Q E
def Binds (K : PySem.W.Frag) (fd : FuncData) (ps : List Str) (ds : List Value) : Prop :=
  ∀ (s : Shared) (us : List Value), K.In s.heap → (us ++ ds).length = ps.length → BindsTo s fd ⟨us, []⟩ (ps.zip (us ++ ds))
theorem Binds.all {K : PySem.W.Frag} {fd : FuncData} {ps : List Str} (h : ∀ us : List Value, us.length = ps.length → bindArgs fd ⟨us, []⟩ = pure (ps.zip us)) : Binds K fd ps [] := fun s us _ hl => by
  rw [List.append_nil] at hl ⊢
  exact .of_eq (h us hl)

def Passes (CX : CXT) (X : Cx) (E : XK) : Prop := ∀ (pins : List (Addr × Obj)) (σ : St) (H : Hp) (s : Shared) (e : Value) (s' : Shared), Inv X pins σ H s → CX X.stack H s E e s' → X.xe e s'

section
variable {X : Cx} {CX : CXT} {k : Nat} {f C : Addr} {fd : FuncData} {ps : List Str} {sp : Sp} {dvs : List V} {ds : List Value} {E : XK} {x m : Str} {p pos apos : Pos} {e o : Expr} {es : List Expr} {ta : TE} {t : TA}

theorem run_fn {pins : List (Addr × Obj)} {σ : St} {H : Hp} {s : Shared} {Q : VK} {us : List Value} {vs : List V} (F : FnOk X.prog X.w X.K X.mg X.base CX k f fd ps sp) (hr : Room k X.A) (hb : Binds X.K fd ps ds) (hd : Vals dvs ds) (hx : Passes CX X E)
    (I : Inv X pins σ H s) (r : Vals vs us) (h : sp (vs ++ dvs) H Q E) : wpAny (model X.prog X.w) X.A (call (.ref f) us) (EP X pins σ Q) X.xe s := by
  have r2 : Vals (vs ++ dvs) (us ++ ds) := r.append hd
  have hl : (us ++ ds).length = ps.length := by rw [← r2.length]; exact F.len _ _ _ _ h
  refine wpAny_call (codeAny_mono (F.run X.A X.stack s H ⟨us, []⟩ (us ++ ds) (vs ++ dvs) Q E hr I.env0 (hb s us I.kIn hl) r2 h) fun r s' hq => ?_)
  cases r with
  | error e => exact hx pins σ H s e s' I hq
  | ok fl =>
    cases fl with
    | ret u => exact I.after hq
    | next => exact False.elim hq
    | brk => exact False.elim hq
    | cont => exact False.elim hq

theorem pe_call (F : FnOk X.prog X.w X.K X.mg X.base CX k f fd ps sp) (hr : Room k X.A) (hg : Gl X x) (hm : X.mg x = some (.ref f)) (hk : PySem.W.keepIn X.K (.ref f) = true) (hb : Binds X.K fd ps ds) (hd : Vals dvs ds) (hx : Passes CX X E)
    (ha : PA X (e :: es) t) (hdb : (x == ("__debug__" : Str)) = false := by decide) (he : starEach (e :: es) X.env = (false, eval e X.env) :: starEach es X.env := by rfl) (hpl : (backTo pos (starEach es X.env)).any (·.1) = false := by rfl) :
    PE X (.Call (.Name x p) (e :: es) [] pos) (tCall sp dvs E t) := by
  intro pins s σ H Q I h
  refine wpAny_Call_Name_kw (ld_glob I hg hm ?_ hdb)
  refine PySem.W.callWith_K (h₀ := X.base) I.ok.mod.kin hk (thn (ha pos pins s σ H _ I h) fun us s1 zq => zq.elim fun vs H1 I1 r q => ⟨I1.kIn, ?_⟩) he hpl
  exact run_fn F hr hb hd hx I1 r q
structure Mk (K : PySem.W.Frag) (C f : Addr) : Prop where
  makes : PySem.W.makesIn K C = true
  init : PySem.W.findIn K (.ref C) "__init__" = some (some (.ref f))
  fn : PySem.W.isFn K (.ref f) = true
  kp : PySem.W.keepIn K (.ref C) = true

end

section
variable {X : Cx} {CX : CXT} {k : Nat} {f C : Addr} {fd : FuncData} {ps ks : List Str} {sp : Sp} {E : XK} {x m : Str} {p pos apos kpos : Pos} {e o : Expr} {es : List Expr} {kws : List Keyword} {te ta : TE} {t tk : TA} {nm : Option Str}
structure KBinds (K : PySem.W.Frag) (fd : FuncData) (ps ks : List Str) (g : List Value → List Value → List Value) (gV : List V → List V → List V) : Prop where
  to : ∀ (s : Shared) (us ws : List Value), K.In s.heap → (g us ws).length = ps.length → BindsTo s fd ⟨us, ks.zip ws⟩ (ps.zip (g us ws))
  rel : ∀ {vs : List V} {us : List Value} {zs : List V} {ws : List Value}, Vals vs us → Vals zs ws → Vals (gV vs zs) (g us ws)
variable {g : List Value → List Value → List Value} {gV : List V → List V → List V}
end

structure FnScope (N P : List Str) (sc : Scope) : Prop where
  kind : sc.kind = .function
  co : sc.isCoroutine = false
  gen : sc.isGenerator = false
  nd : N.Nodup
  pre : N.take P.length = P
  par : ∀ x ∈ P, sc.names.lookup x = some .local ∨ sc.names.lookup x = some .cell
  nofree : ∀ y ∈ sc.names, y.2 ≠ .free

theorem bindL_out {kindOf : Str → Option NameKind} {x : Str} : ∀ {binds : List (Str × Value)} {m : Str → Option Value}, (∀ v, (x, v) ∉ binds) → bindL kindOf binds m x = m x
  | [], _, _ => rfl
  | (n, v) :: r, m, h => by
    unfold bindL
    rw [bindL_out fun w hw => h w (List.mem_cons_of_mem _ hw)]
    split
    · have : x ≠ n := by rintro rfl; exact h v List.mem_cons_self
      simp [this]
    · rfl
theorem bindC_out {kindOf : Str → Option NameKind} {x : Str} : ∀ {binds : List (Str × Value)} {m : Str → Option Value}, (∀ v, (x, v) ∉ binds) → bindC kindOf binds m x = m x
  | [], _, _ => rfl
  | (n, v) :: r, m, h => by
    unfold bindC
    rw [bindC_out fun w hw => h w (List.mem_cons_of_mem _ hw)]
    split
    · rfl
    · have : x ≠ n := by rintro rfl; exact h v List.mem_cons_self
      simp [this]
theorem bindL_get {kindOf : Str → Option NameKind} {x : Str} {v : Value} : ∀ {P : List Str} {vs : List Value} {i : Nat} {m : Str → Option Value}, P.Nodup → P[i]? = some x → vs[i]? = some v → kindOf x = some .local →
    bindL kindOf (P.zip vs) m x = some v
  | [], _, _, _, _, h, _, _ => by simp at h
  | _ :: _, [], _, _, _, _, h, _ => by simp at h
  | p :: P, w :: vs, 0, m, nd, h1, h2, hk => by
    simp at h1 h2; subst h1; subst h2
    show bindL kindOf ((p, w) :: P.zip vs) m p = _
    unfold bindL
    rw [bindL_out fun v hv => (List.nodup_cons.mp nd).1 (List.of_mem_zip hv).1, if_pos hk]
    simp
  | p :: P, w :: vs, i + 1, m, nd, h1, h2, hk => by
    show bindL kindOf ((p, w) :: P.zip vs) m x = _
    unfold bindL
    exact bindL_get (i := i) (List.nodup_cons.mp nd).2 (by simpa using h1) (by simpa using h2) hk
theorem bindC_get {kindOf : Str → Option NameKind} {x : Str} {v : Value} : ∀ {P : List Str} {vs : List Value} {i : Nat} {m : Str → Option Value}, P.Nodup → P[i]? = some x → vs[i]? = some v → kindOf x ≠ some .local →
    bindC kindOf (P.zip vs) m x = some v
  | [], _, _, _, _, h, _, _ => by simp at h
  | _ :: _, [], _, _, _, _, h, _ => by simp at h
  | p :: P, w :: vs, 0, m, nd, h1, h2, hk => by
    simp at h1 h2; subst h1; subst h2
    show bindC kindOf ((p, w) :: P.zip vs) m p = _
    unfold bindC
    rw [bindC_out fun v hv => (List.nodup_cons.mp nd).1 (List.of_mem_zip hv).1, if_neg hk]
    simp
  | p :: P, w :: vs, i + 1, m, nd, h1, h2, hk => by
    show bindC kindOf ((p, w) :: P.zip vs) m x = _
    unfold bindC
    exact bindC_get (i := i) (List.nodup_cons.mp nd).2 (by simpa using h1) (by simpa using h2) hk

def start (N : List Str) (vs : List V) : St := vs.map some ++ List.replicate (N.length - vs.length) none

def cxOf (CX : CXT) (P : Program) (w : World) (K : PySem.W.Frag) (mg : Str → Option Value) (base : Heap) (N : List Str) (qual : Str) (scope : Scope) (f : Addr) (cd : Value) (A : Around) (outer : List Env) (s : Shared) (H : Hp) (E : XK) : Cx where
  prog := P
  w := w
  K := K
  mg := mg
  base := base
  A := A.deeper (envOfC qual scope s.heap.objs.size f cd)
  N := N
  s₀ := s
  H₀ := H
  env := envOfC qual scope s.heap.objs.size f cd
  outer := outer
  stack := envOfC qual scope s.heap.objs.size f cd :: outer
  ex := []
  calm := true
  fn := fun _ => true
  pn := []
  xe := fun e s' => wpAny (model P w) (A.deeper (envOfC qual scope s.heap.objs.size f cd)) (leaving (envOfC qual scope s.heap.objs.size f cd) e) (fun _ s'' => CX outer H s E e s'') (fun e' s'' => CX outer H s E e' s'') s'

theorem cell_has {sc : Scope} {n : Nat} {x : Str} (h : sc.names.lookup x = some .cell) : ∃ c, (cellsFrom n sc.names []).lookup x = some c := by
  have q := PySem.W.cellsFrom_some sc.names n [] (.inl h)
  exact Option.isSome_iff_exists.mp q

theorem inv_start {CX : CXT} {P : Program} {w : World} {K : PySem.W.Frag} {mg : Str → Option Value} {base : Heap} {N ps : List Str} {qual : Str} {scope : Scope} {f : Addr} {cd : Value} {A : Around} {outer : List Env} {s s1 : Shared} {H : Hp} {E : XK} {us : List Value} {vs : List V}
    (S : FnScope N ps scope) (hd : A.handled = none) (e0 : Env0 P w K mg base A outer s H) (hl : vs.length = ps.length) (r : Vals vs us)
    (x : InCallC s s.heap.objs.size (bindL (envOfC qual scope s.heap.objs.size f cd).kindOf (ps.zip us) fun _ => none) (cellsFrom (s.heap.objs.size + 1) scope.names []) (bindC (envOfC qual scope s.heap.objs.size f cd).kindOf (ps.zip us) fun _ => none) s1) :
    Inv (cxOf CX P w K mg base N qual scope f cd A outer s H E) [] (start N vs) H s1 := by
  have hpl : ps.length ≤ N.length := by have := congrArg List.length S.pre; rw [List.length_take] at this; omega
  obtain ⟨h1, tk, rfl, hk⟩ := x.done
  have noA : ∀ b : Addr, b ∉ (cxOf CX P w K mg base N qual scope f cd A outer s H E).ex := fun b z => absurd (show b ∈ ([] : List Addr) from z) (by simp)
  refine ⟨⟨e0.mod, S.kind, rfl, rfl, Nat.le_refl _, fun y z c h1 h2 => ?_, fun y hy => ?_, fun y c _ h => ?_, fun _ => hd, Around.frames_deeper e0.frames, .inr ⟨rfl, rfl⟩, fun b z => absurd z (noA b), e0.bs, e0.bsz, fun b _ _ => noA b, fun b z => absurd z (noA b), e0.funs, e0.frf⟩,
    rfl, e0.bare, Un.kept hk, ⟨_, x.toInCall.ns, fun i y v h1 h2 h3 => ?_⟩, fun y c h => ⟨_, x.cell y c h⟩, e0.hok.fresh (Nat.le_refl _), fun y c h => ?_, fun p hp => absurd (show p ∈ ([] : List (Addr × Obj)) from hp) (by simp), e0.hok.kept hk, ?_⟩
  · exact name_of_addr x.apart (PySem.mem_of_lookup h1) (PySem.mem_of_lookup h2)
  · have hy : scope.names.lookup y = some .cell ∨ scope.names.lookup y = some .free := hy
    rcases hy with hy | hy
    · exact cell_has hy
    · exact absurd rfl (S.nofree _ (PySem.mem_of_lookup hy))
  · exact Nat.le_of_lt (x.above y c (PySem.mem_of_lookup h))
  · have hi : i < vs.length := by
      unfold start at h2
      by_cases hi : i < vs.length
      · exact hi
      · rw [List.getElem?_append_right (by simpa using hi)] at h2
        rw [List.getElem?_replicate] at h2
        split at h2 <;> cases h2
    have ha : vs[i]? = some v := by
      unfold start at h2
      rw [List.getElem?_append_left (by simpa using hi), List.getElem?_map] at h2
      cases e : vs[i]? with
      | none => rw [e] at h2; cases h2
      | some a => rw [e] at h2; cases h2; rfl
    obtain ⟨u, hu, rv⟩ := r.get ha
    have hp : ps[i]? = some y := by
      rw [← S.pre, List.getElem?_take_of_lt (by omega)]; exact h1
    have ndP : ps.Nodup := by rw [← S.pre]; exact S.nd.sublist (List.take_sublist _ _)
    refine ⟨u, rv, ?_⟩
    rcases S.par y (List.mem_of_getElem? hp) with k | k
    · exact .inl ⟨k, bindL_get ndP hp hu k⟩
    · obtain ⟨c, e⟩ := cell_has (n := s.heap.objs.size + 1) k
      refine .inr ⟨.inl k, c, e, ?_⟩
      have q := x.cell y c e
      rw [bindC_get ndP hp hu (by show scope.names.lookup y ≠ _; rw [k]; decide)] at q
      exact q
  · exact e0.hok.fresh (Nat.le_of_lt (x.above y c (PySem.mem_of_lookup h)))
  · unfold start
    show _ = N.length
    rw [List.length_append, List.length_map, List.length_replicate]
    omega

theorem fn_of {CX : CXT} {P : Program} {w : World} {K : PySem.W.Frag} {mg : Str → Option Value} {base : Heap} {k : Nat} {f : Addr} {name qual : Str} {params : Arguments} {body : List Stmt} {scope : Scope} {dV kV doc pm cdv ct oc : Value} {an od : Option Addr}
    {osl : Array (Option Value)} {N ps : List Str} {sp : Sp} (lk : K.lookup f = some ⟨oc, od, .func (PySem.W.fnOf name qual params body scope dV kV doc pm an cdv ct), osl⟩) (hcd : PySem.W.codeIn K cdv qual = true) (S : FnScope N ps scope)
    (len : ∀ vs H Q E, sp vs H Q E → vs.length = ps.length)
    (hbody : ∀ (A : Around) (outer : List Env) (s : Shared) (H : Hp) (vs : List V) (Q : VK) (E : XK), Room k (A.deeper (envOfC qual scope s.heap.objs.size f cdv)) → sp vs H Q E →
      ∃ t, PSs (cxOf CX P w K mg base N qual scope f cdv A outer s H E) body t ∧ t { nx := fun _ H' => Q .non H', rt := Q } (start N vs) H) :
    FnOk P w K mg base CX (k + 1) f (PySem.W.fnOf name qual params body scope dV kV doc pm an cdv ct) ps sp := by
  refine ⟨len, fun A outer s H args us vs Q E hr e0 hb r hsp => ?_⟩
  have hl := len _ _ _ _ hsp
  have KX : K.In s.heap := e0.mod.kin.keeps fun b o e => (e0.bs b o e).1
  have lim : s.heap.NoLimit := e0.mod.nolimit.keeps fun b o e => (e0.bs b o e).1
  have hkind : ∀ y ∈ ps.zip us, scope.names.lookup y.1 = some .local ∨ (scope.names.lookup y.1 = some .cell ∧ ((cellsFrom (s.heap.objs.size + 1) scope.names []).lookup y.1).isSome = true) := fun ⟨n, v⟩ hy => by
    rcases S.par n (List.of_mem_zip hy).1 with q | q
    · exact .inl q
    · exact .inr ⟨q, PySem.W.cellsFrom_some _ _ _ (.inl q)⟩
  refine codeAny_call_function hr.depth (KX _ _ lk) rfl S.co S.gen rfl (PySem.W.codeRec_of KX hcd) (hb _ _ _ _ ?_)
  refine wpAny_newFunctionEnv_cells S.kind hkind fun env he s1 x => ?_
  subst he
  refine ⟨lim.keeps x.toInCall.keep, codeAny_func ?_⟩
  obtain ⟨t, ht, hq⟩ := hbody A outer s H vs Q E (hr.deeper _) hsp
  have I : Inv (cxOf CX P w K mg base N qual scope f cdv A outer s H E) [] (start N vs) H s1 := inv_start S hr.hd e0 hl r x
  refine wpAny_mono (ht [] s1 (start N vs) H _ I hq) (fun fl s' hs => ?_) fun e s' hs => hs
  have fin : ∀ {σ' : St} {H' : Hp} {v : V} {u : Value}, Inv (cxOf CX P w K mg base N qual scope f cdv A outer s H E) [] σ' H' s' → RelV v u → Q v H' → CE outer P w H s Q u s' :=
    fun {σ' H' v u} J rv q => ⟨v, H', J.os, J.bare, J.base, J.hok, rv, q⟩
  cases fl with
  | ret u =>
    obtain ⟨v, σ', H', J, rv, q⟩ := hs
    exact fin J rv q
  | next =>
    obtain ⟨σ', H', J, q⟩ := hs
    exact fin (v := V.non) (u := Value.none) J rfl q
  | brk =>
    obtain ⟨_, _, _, q⟩ := hs
    exact False.elim q
  | cont =>
    obtain ⟨_, _, _, q⟩ := hs
    exact False.elim q
end L2

namespace L2
open PySem PySem.Spec PyProof.Rows
section
variable {X : Cx} {x : Str} {p pos : Pos} {e : Expr} {es : List Expr} {t : TA} {id T : String} {r : List V → Hp → VK → Prop}

def tCB (r : List V → Hp → VK → Prop) (t : TA) : TE := fun σ H Q => t σ H fun vs H1 => r vs H1 Q
theorem pe_callB (hc : CallR X (.builtin id) r) (hg : Gl X x) (hm : X.mg x = none) (hv : bootBuiltins x = some (.builtin id)) (ha : PA X (e :: es) t) (hn : x ≠ "__name__" := by decide) (hdb : (x == ("__debug__" : Str)) = false := by decide)
    (he : starEach (e :: es) X.env = (false, eval e X.env) :: starEach es X.env := by rfl) (hpl : (backTo pos (starEach es X.env)).any (·.1) = false := by rfl) : PE X (.Call (.Name x p) (e :: es) [] pos) (tCB r t) := by
  intro pins s σ H Q I h
  refine wpAny_Call_Name_kw (ld_blt I hg hm hv ?_ hn hdb)
  exact PyProof.Rows.callWith_builtin1 (thn (ha pos pins s σ H _ I h) fun us s1 zq => zq.elim fun vs H1 I1 r1 q1 => hc pins s1 σ H1 vs us Q I1 r1 q1) he hpl
end
end L2

namespace HT
open PySem PyProof.Rows

def lexLt : List Int → List Int → Bool
  | [], [] => false
  | [], _ :: _ => true
  | _ :: _, [] => false
  | x :: xs, y :: ys => if x = y then lexLt xs ys else decide (x < y)
section
open PySem.SeqAt
open PySem.AutoSeq1 (wpAny_loadPart')
open PySem.MeetsSeq PySem.MeetsSeq2 PySem.MeetsSeq3

end

section
variable {prog : Program} {w : World} {A : Around} {E : Value → Shared → Prop} {s : Shared}

def sIx (n d : Nat) : Option Int → Nat
  | none => d
  | some v => if v < 0 then (v + (n : Int)).toNat else min v.toNat n
end
end HT

namespace L2
open PySem PySem.Spec PyProof.Rows

abbrev TO := St → Hp → (Option Int → Hp → Prop) → Prop
section
variable {X : Cx} {e : Expr} {te : TE} {lo hi : Option Expr} {tl th : TO} {pos p2 : Pos}

def SlR (X : Cx) (r : V → Option Int → Option Int → Hp → VK → Prop) : Prop :=
  ∀ (pins : List (Addr × Obj)) (s : Shared) (σ : St) (H : Hp) (x : V) (v vl vu : Value) (lo hi : Option Int) (sl : Addr) (Q : VK), Inv X pins σ H s → RelV x v → s.heap.IsSliceOf sl vl vu .none → IsPart vl lo → IsPart vu hi → r x lo hi H Q →
    ∃ T id, typeLookup (.type T) "__getitem__" = pure (some (.builtin id)) ∧ s.TypeIs v T ∧ wpAny (model X.prog X.w) X.A (getItem v (.ref sl)) (EP X pins σ Q) X.xe s
theorem SlR.or {r r' : V → Option Int → Option Int → Hp → VK → Prop} (h : SlR X r) (h' : SlR X r') : SlR X (fun x lo hi H Q => r x lo hi H Q ∨ r' x lo hi H Q) := by
  intro pins s σ H x v vl vu lo hi sl Q I rx hs pl pu q
  rcases q with q | q
  · exact h pins s σ H x v vl vu lo hi sl Q I rx hs pl pu q
  · exact h' pins s σ H x v vl vu lo hi sl Q I rx hs pl pu q
def cutV (xs : List V) (lo hi : Option Int) : List V := (xs.drop (HT.sIx xs.length 0 lo)).take (HT.sIx xs.length xs.length hi - HT.sIx xs.length 0 lo)
inductive rSlTI (K : PySem.W.Frag) (x : V) (lo : Option Int) (hi : Option Int) (H : Hp) (Q : VK) : Prop
  | mk (a : _) (xs : _) (x0 : x = .ref a) (x1 : SqT K H a xs) (x2 : ¬ (HT.sIx xs.length 0 lo = 0 ∧ HT.sIx xs.length xs.length hi = xs.length)) (x3 : ∀ p, H p = none → Q (.ref p) (upd H p (.tup (cutV xs lo hi)))) : rSlTI K x lo hi H Q
inductive rLtTI (K : PySem.W.Frag) (x : V) (y : V) (H : Hp) (Q : VK) : Prop
  | mk (a : _) (b : _) (ns : _) (ms : _) (x0 : x = .ref a) (x1 : y = .ref b) (x2 : SqT K H a (ns.map V.int)) (x3 : SqT K H b (ms.map V.int)) (x4 : Q (.bl (HT.lexLt ns ms)) H) : rLtTI K x y H Q
inductive rCatTI (K : PySem.W.Frag) (x : V) (y : V) (H : Hp) (Q : VK) : Prop
  | mk (a : _) (b : _) (xs : _) (ys : _) (x0 : x = .ref a) (x1 : y = .ref b) (x2 : SqT K H a xs) (x3 : SqT K H b ys) (x4 : xs ≠ []) (x5 : xs.length + ys.length ≤ sizeLine) (x6 : (ys = [] → Q (.ref a) H)) (x7 : (ys ≠ [] → ∀ p, H p = none → Q (.ref p) (upd H p (.tup (xs ++ ys))))) : rCatTI K x y H Q
inductive r_call_tupleTI (K : PySem.W.Frag) (xs : List V) (H : Hp) (Q : VK) : Prop
  | mk (a : _) (ys : _) (h0_ : xs = [.ref a]) (h1_ : SqT K H a ys) (h2_ : Q (.ref a) H) : r_call_tupleTI K xs H Q
end
end L2

namespace L2
open PySem PySem.Spec PyProof.Rows

def ixN (n : Nat) (i : Int) : Option Nat := if 0 ≤ i then (if i < n then some i.toNat else none) else if -(n : Int) ≤ i then some (i + n).toNat else none
def atI {α : Type} (xs : List α) (i : Int) : Option α := (ixN xs.length i).bind fun j => xs[j]?
theorem ixN_seq {n : Nat} {i : Int} {j : Nat} (h : ixN n i = some j) : seqIndex? i n = some j ∧ j < n ∧ -(n : Int) ≤ i ∧ i < n := by
  unfold ixN at h
  by_cases h0 : 0 ≤ i
  · rw [if_pos h0] at h
    by_cases h1 : i < n
    · rw [if_pos h1] at h
      have e : i.toNat = j := Option.some.inj h
      exact ⟨by rw [seqIndex_of h0 h1, e], by omega, by omega, h1⟩
    · rw [if_neg h1] at h; cases h
  · rw [if_neg h0] at h
    by_cases h1 : -(n : Int) ≤ i
    · rw [if_pos h1] at h
      have e : (i + n).toNat = j := Option.some.inj h
      exact ⟨by rw [seqIndex_neg (by omega) h1, e], by omega, h1, by omega⟩
    · rw [if_neg h1] at h; cases h
theorem atI_get {α : Type} {xs : List α} {i : Int} {v : α} (h : atI xs i = some v) : ∃ j, seqIndex? i xs.length = some j ∧ xs[j]? = some v ∧ j < xs.length ∧ -(xs.length : Int) ≤ i ∧ i < xs.length := by
  unfold atI at h
  cases e : ixN xs.length i with
  | none => rw [e] at h; cases h
  | some j =>
    rw [e] at h
    obtain ⟨h1, h2, h3, h4⟩ := ixN_seq e
    exact ⟨j, h1, h, h2, h3, h4⟩
theorem atI_nat {α : Type} {xs : List α} {j : Nat} {v : α} (h : xs[j]? = some v) : atI xs (j : Int) = some v := by
  have hj : j < xs.length := (List.getElem?_eq_some_iff.mp h).1
  have e : ixN xs.length (j : Int) = some j := by
    unfold ixN
    rw [if_pos (by omega), if_pos (by omega)]; simp
  unfold atI; rw [e]; exact h
def PlainIx (b : Expr) : Prop := ∀ o i, subscripted b false o i = operate [o, i] (getItem o i)
def IxR (X : Cx) (r : R2) : Prop :=
  ∀ (value slice : Expr) (pins : List (Addr × Obj)) (s : Shared) (σ : St) (H : Hp) (x y : V) (v u : Value) (Q : VK), Inv X pins σ H s → RelV x v → RelV y u → r x y H Q →
    subscripted slice false v u = operate [v, u] (getItem v u) → wpAny (model X.prog X.w) X.A (subscriptTail value slice v u) (EP X pins σ Q) X.xe s
def MtR (X : Cx) (id : String) (r : V → List V → Hp → VK → Prop) : Prop :=
  ∀ (pins : List (Addr × Obj)) (s : Shared) (σ : St) (H : Hp) (x : V) (xs : List V) (v : Value) (us : List Value) (Q : VK), Inv X pins σ H s → RelV x v → Vals xs us → r x xs H Q →
    wpAny (model X.prog X.w) X.A (call (.builtin id) (v :: us)) (EP X pins σ Q) X.xe s
section
variable {X : Cx} {a b : Expr} {ta tb : TE} {pos : Pos}
theorem IxR.or {r r' : R2} (h : IxR X r) (h' : IxR X r') : IxR X (fun x y H Q => r x y H Q ∨ r' x y H Q) := by
  intro value slice pins s σ H x y v u Q I rx ry q hs
  rcases q with q | q
  · exact h value slice pins s σ H x y v u Q I rx ry q hs
  · exact h' value slice pins s σ H x y v u Q I rx ry q hs
theorem MtR.or {id : String} {r r' : V → List V → Hp → VK → Prop} (h : MtR X id r) (h' : MtR X id r') : MtR X id (fun x xs H Q => r x xs H Q ∨ r' x xs H Q) := by
  intro pins s σ H x xs v us Q I rx rs q
  rcases q with q | q
  · exact h pins s σ H x xs v us Q I rx rs q
  · exact h' pins s σ H x xs v us Q I rx rs q
theorem pe_ix {r : R2} (hr : IxR X r) (ha : PE X a ta) (hb : PE X b tb) (hs : PlainIx b) : PE X (.Subscript a b pos) (tOp r ta tb) := by
  intro pins s σ H Q I h
  exact Subscript_ (binT ha hb I h fun v u s2 x y H2 I2 rx ry q => hr a b pins s2 σ H2 x y v u Q I2 rx ry q (hs _ _))

inductive rIxLI (K : PySem.W.Frag) (x : V) (y : V) (H : Hp) (Q : VK) : Prop
  | mk (p : _) (xs : _) (i : _) (v : _) (x0 : x = .ref p) (x1 : y = .int i) (x2 : SqL K H p xs) (x3 : atI xs i = some v) (x4 : Q v H) : rIxLI K x y H Q
def rIxL (K : PySem.W.Frag) : R2 := fun x y H Q => rIxLI K x y H Q
inductive rIxTI (K : PySem.W.Frag) (x : V) (y : V) (H : Hp) (Q : VK) : Prop
  | mk (p : _) (xs : _) (i : _) (v : _) (x0 : x = .ref p) (x1 : y = .int i) (x2 : SqT K H p xs) (x3 : atI xs i = some v) (x4 : Q v H) : rIxTI K x y H Q
inductive rIxSI (x : V) (y : V) (H : Hp) (Q : VK) : Prop
  | mk (z : _) (i : _) (c : _) (x0 : x = .str z) (x1 : y = .int i) (x2 : z.length ≤ sizeLine) (x3 : atI z.cps.toList i = some c) (x4 : Q (.str ⟨#[c]⟩) H) : rIxSI  x y H Q
theorem ix_list : IxR X (rIxL X.K) := by
  intro value slice pins s σ H x y v u Q I rx ry h hs
  obtain ⟨p, xs, i, z, rfl, rfl, hq, he, q⟩ := h
  cases rx
  obtain ⟨t, rfl⟩ := ry
  obtain ⟨its, r, pl, hz⟩ := I.list hq
  obtain ⟨j, h1, h2, h3, h4, h5⟩ := atI_get he
  obtain ⟨w, ew, rw'⟩ := r.get h2
  have hl := r.length
  have hn := line63
  have fin : EP X pins σ Q w s := ⟨z, H, I, rw', q⟩
  by_cases h0 : 0 ≤ i
  · have hj : i.toNat = j := by
      rw [seqIndex_of h0 h5] at h1
      exact Option.some.inj h1
    exact item_listR pl.isList h0 (by omega) (by rw [hj]; simpa using ew) fin hs
  · have hj : (i + (its.toArray.size : Int)).toNat = j := by
      rw [seqIndex_neg (by omega) h4] at h1
      rw [List.size_toArray, ← hl]
      exact Option.some.inj h1
    exact subscriptTail_builtinR (x := w) pl.isList.typeIs slot_list_getitem.lookup
      (wpAny_getItem_list_neg (Q := fun r s' => r = w ∧ EP X pins σ Q r s') pl.isList (by omega) (by rw [List.size_toArray] <;> omega) (by omega) (by rw [hj]; simpa using ew) ⟨rfl, fin⟩) hs
theorem Inv.lst {pins : List (Addr × Obj)} {σ : St} {H : Hp} {s : Shared} {p : Addr} {xs : List V} (I : Inv X pins σ H s) (h : H p = some (.lst xs)) :
    ∃ (its : List Value) (n : Nat), Vals xs its ∧ s.heap.get? p = some { cls := .type "list", data := .seq its.toArray n } ∧ xs.length ≤ sizeLine := by
  obtain ⟨z, its, n, r, e⟩ := I.hok p _ h
  exact ⟨its, n, r, e, z⟩
inductive rSetLI (o : V) (i : V) (v : V) (H : Hp) (Q : (Hp → Prop)) : Prop
  | mk (p : _) (xs : _) (k : _) (j : _) (x0 : o = .ref p) (x1 : i = .int k) (x2 : H p = some (.lst xs)) (x3 : ixN xs.length k = some j) (x4 : Q (upd H p (.lst (xs.set j v)))) : rSetLI  o i v H Q
inductive rSlLI (K : PySem.W.Frag) (x : V) (lo : Option Int) (hi : Option Int) (H : Hp) (Q : VK) : Prop
  | mk (a : _) (xs : _) (x0 : x = .ref a) (x1 : SqL K H a xs) (x2 : ∀ p, H p = none → Q (.ref p) (upd H p (.lst (cutV xs lo hi)))) : rSlLI K x lo hi H Q
def flatV : V → Bool
  | .non => true
  | .bl _ => true
  | .int _ => true
  | .str _ => true
  | _ => false
def eqV : V → V → Bool
  | .non, .non => true
  | .bl a, .bl b => a == b
  | .bl a, .int b => (if a then 1 else 0) == b
  | .int a, .bl b => a == (if b then 1 else 0)
  | .int a, .int b => a == b
  | .str a, .str b => a == b
  | _, _ => false
theorem eqAt_V {A : Around} {s : Shared} {y x : V} {u v : Value} (ry : RelV y u) (rx : RelV x v) (fy : flatV y = true) (fx : flatV x = true) : SeqAt.EqAt A s u v (eqV y x) := by
  cases y with
  | non =>
    cases ry
    cases x with
    | non => cases rx; exact SeqAt.EqAt.same _
    | bl b => cases rx; exact SeqAt.EqAt.none_bool b
    | int b => obtain ⟨t, rfl⟩ := rx; exact SeqAt.EqAt.none_int b t
    | str b => obtain ⟨t, rfl⟩ := rx; exact SeqAt.EqAt.none_str b t
    | _ => exact absurd (show false = true from fx) Bool.false_ne_true
  | bl a =>
    cases ry
    cases x with
    | non => cases rx; exact SeqAt.EqAt.bool_none a
    | bl b => cases rx; exact SeqAt.EqAt.bool_bool a b
    | int b => obtain ⟨t, rfl⟩ := rx; exact SeqAt.EqAt.bool_int a b t
    | str b => obtain ⟨t, rfl⟩ := rx; exact SeqAt.EqAt.bool_str a b t
    | _ => exact absurd (show false = true from fx) Bool.false_ne_true
  | int a =>
    obtain ⟨t', rfl⟩ := ry
    cases x with
    | non => cases rx; exact SeqAt.EqAt.int_none a t'
    | bl b => cases rx; exact SeqAt.EqAt.int_bool a t' b
    | int b => obtain ⟨t, rfl⟩ := rx; exact SeqAt.EqAt.int_int a t' b t
    | str b => obtain ⟨t, rfl⟩ := rx; exact SeqAt.EqAt.int_str a t' b t
    | _ => exact absurd (show false = true from fx) Bool.false_ne_true
  | str a =>
    obtain ⟨t', rfl⟩ := ry
    cases x with
    | non => cases rx; exact SeqAt.EqAt.str_none a t'
    | bl b => cases rx; exact SeqAt.EqAt.str_bool a t' b
    | int b => obtain ⟨t, rfl⟩ := rx; exact SeqAt.EqAt.str_int a t' b t
    | str b => obtain ⟨t, rfl⟩ := rx; exact SeqAt.EqAt.str_str a t' b t
    | _ => exact absurd (show false = true from fx) Bool.false_ne_true
  | _ => exact absurd (show false = true from fy) Bool.false_ne_true
def inV (x : V) (xs : List V) : Bool := xs.any fun y => eqV y x
inductive rInI (K : PySem.W.Frag) (neg : Bool) (x : V) (y : V) (H : Hp) (Q : VK) : Prop
  | mk (p : _) (xs : _) (x0 : y = .ref p) (x1 : (SqL K H p xs ∨ SqT K H p xs)) (x2 : flatV x = true) (x3 : xs.all flatV = true) (x4 : Q (.bl (if neg then !inV x xs else inV x xs)) H) : rInI K neg x y H Q
inductive r_op_notIn_strI (x : V) (y : V) (H : Hp) (Q : VK) : Prop
  | mk (i : _) (j : _) (h0_ : x = .str i) (h1_ : y = .str j) (h2_ : Q (.bl (!(!(Builtin.Str.occurrences j i 0 j.length 1).isEmpty))) H) : r_op_notIn_strI x y H Q
inductive r_call_len_seqI (K : PySem.W.Frag) (xs : List V) (H : Hp) (Q : VK) : Prop
  | mk (p : _) (ys : _) (h0_ : xs = [.ref p]) (h1_ : (SqL K H p ys ∨ SqT K H p ys)) (h2_ : Q (.int ys.length) H) : r_call_len_seqI K xs H Q
def r_call_len_seq (K : PySem.W.Frag) : List V → Hp → VK → Prop := fun xs H Q => r_call_len_seqI K xs H Q
theorem call_len_seq : CallR X (.builtin "len") (r_call_len_seq X.K) := by
  intro pins s σ H xs us Q I r h
  obtain ⟨p, ys, rfl, hq, q⟩ := h
  obtain ⟨u, rfl, rx⟩ := vals1 r
  cases rx
  have hn := line63
  rcases hq with hq | hq
  · obtain ⟨its, r', pl, hz⟩ := I.list hq
    have hlen := r'.length
    exact Calls.call_len_list pl.isList (by simp only [List.size_toArray] <;> omega) ⟨.int ys.length, H, I.tok _, ⟨s.toks + 1, by rw [List.size_toArray, hlen]⟩, q⟩
  · obtain ⟨its, r', pl, hz⟩ := I.tuple hq
    have hlen := r'.length
    exact len_tuple pl (by simp only [List.size_toArray] <;> omega) ⟨.int ys.length, H, I.tok _, ⟨s.toks + 1, by rw [List.size_toArray, hlen]⟩, q⟩
inductive r_call_len_strI (xs : List V) (H : Hp) (Q : VK) : Prop
  | mk (z : _) (h0_ : xs = [.str z]) (h1_ : z.length ≤ sizeLine) (h2_ : Q (.int z.length) H) : r_call_len_strI xs H Q
theorem CallR.or {f : Value} {r r' : List V → Hp → VK → Prop} (h : CallR X f r) (h' : CallR X f r') : CallR X f (fun xs H Q => r xs H Q ∨ r' xs H Q) := by
  intro pins s σ H xs us Q I rs q
  rcases q with q | q
  · exact h pins s σ H xs us Q I rs q
  · exact h' pins s σ H xs us Q I rs q
inductive r_call_list_ofI (K : PySem.W.Frag) (xs : List V) (H : Hp) (Q : VK) : Prop
  | mk (p : _) (ys : _) (h0_ : xs = [.ref p]) (h1_ : (SqL K H p ys ∨ SqT K H p ys)) (h2_ : ∀ l, H l = none → Q (.ref l) (upd H l (.lst ys))) : r_call_list_ofI K xs H Q
inductive r_call_tuple_ofI (K : PySem.W.Frag) (xs : List V) (H : Hp) (Q : VK) : Prop
  | mk (p : _) (ys : _) (h0_ : xs = [.ref p]) (h1_ : ((SqL K H p ys ∧ ∀ l, H l = none → Q (.ref l) (upd H l (.tup ys))) ∨ (SqT K H p ys ∧ Q (.ref p) H))) : r_call_tuple_ofI K xs H Q
def tyV (K : PySem.W.Frag) (T : String) (x : V) (H : Hp) : Prop := match x with
  | .str _ => T = "str"
  | .int _ => T = "int"
  | .ref p => (T = "list" ∧ ∃ xs, SqL K H p xs) ∨ (T = "tuple" ∧ ∃ o, K.lookup p = some o ∧ o.cls = .type "tuple" ∧ o.dict = none) ∨
      (T = "dict" ∧ ((∃ kvs, H p = some (.dK kvs)) ∨ ∃ kvs, H p = some (.dT kvs))) ∨ (T = "set" ∧ ∃ S n, H p = some (.set S n))
  | _ => False
theorem tyV_is {pins : List (Addr × Obj)} {σ : St} {H : Hp} {s : Shared} {T : String} {x : V} {v : Value} (I : Inv X pins σ H s) (r : RelV x v) (ty : tyV X.K T x H) :
    s.TypeIs v T ∧ ∀ a, v = .ref a → ∃ ob, s.heap.get? a = some ob ∧ ob.dict = none := by
  cases x with
  | str z =>
    obtain ⟨t, rfl⟩ := r
    cases (show T = "str" from ty)
    exact ⟨typeIs_str s z t, fun _ e => nomatch e⟩
  | int i =>
    obtain ⟨t, rfl⟩ := r
    cases (show T = "int" from ty)
    exact ⟨typeIs_int s i t, fun _ e => nomatch e⟩
  | ref p =>
    cases r
    rcases ty with ⟨rfl, xs, hq⟩ | ⟨rfl, o, hk, hc, hd⟩ | ⟨rfl, hk⟩ | ⟨rfl, S, n, hk⟩
    · obtain ⟨its, _, pl, _⟩ := I.list hq
      refine ⟨pl.isList.typeIs, fun a e => ?_⟩
      cases e
      obtain ⟨o, n, e, c, hd, _⟩ := pl
      exact ⟨o, e, hd⟩
    · refine ⟨⟨o, I.kIn p o hk, hc⟩, fun a e => ?_⟩
      cases e
      exact ⟨o, I.kIn _ o hk, hd⟩
    · have z : ∃ o, s.heap.get? p = some o ∧ o.ExactDict := by
        rcases hk with ⟨kvs, hk⟩ | ⟨kvs, hk⟩
        · obtain ⟨_, _, _, _, o, _, _, e, ex, _⟩ := I.hok p _ hk
          exact ⟨o, e, ex⟩
        · obtain ⟨_, _, _, _, o, _, _, e, ex, _⟩ := I.hok p _ hk
          exact ⟨o, e, ex⟩
      obtain ⟨o, e, ex⟩ := z
      refine ⟨⟨o, e, ex.1⟩, fun a e2 => ?_⟩
      cases e2
      exact ⟨o, e, ex.2.1⟩
    · obtain ⟨o, _, _, _, e, ex, _⟩ := I.hok p _ hk
      refine ⟨⟨o, e, ex.1⟩, fun a e2 => ?_⟩
      cases e2
      exact ⟨o, e, ex.2.1⟩
  | _ => exact False.elim ty
def tBM (K : PySem.W.Frag) (T : String) (r : V → List V → Hp → VK → Prop) (to : TE) (t : TA) : TE := fun σ H Q => to σ H fun x H1 => tyV K T x H1 ∧ t σ H1 fun xs H2 => r x xs H2 Q
variable {o e : Expr} {es : List Expr} {to : TE} {t : TA} {name : Str} {apos cpos : Pos} {T id : String} {r : V → List V → Hp → VK → Prop}
theorem pe_bm (pa : PlainAttrs T) (slot : Slot T name id) (hty : typeOf (.builtin id) = pure (.type "method_descriptor")) (hm : MtR X id r) (ho : PE X o to) (ha : PA X (e :: es) t)
    (hbase : attributeBase o name X.env (eval o X.env) = eval o X.env := by rfl)
    (hfew : ((backTo cpos (starEach (e :: es) X.env)).all (fun x => !x.1) && (backToKw cpos (keywordEach [] X.env)).all (fun x => x.1.isSome)
      && decide ((e :: es).length + ([] : List Keyword).length + (if ([] : List Keyword).isEmpty then 0 else 1) < 30)) = true := by rfl)
    (hline : (apos.endLine == cpos.line) = true := by rfl) (hs : starEach (e :: es) X.env = (false, eval e X.env) :: starEach es X.env := by rfl) (hplain : (backTo cpos (starEach es X.env)).any (·.1) = false := by rfl) :
    PE X (.Call (.Attribute o name apos) (e :: es) [] cpos) (tBM X.K T r to t) := by
  intro pins s σ H Q I h
  refine wpAny_Call_method_late hbase hfew hline rfl (thn (ho pins s σ H _ I h) fun v s1 ⟨x, H1, I1, r1, ty, q1⟩ => ?_)
  obtain ⟨h1, h2⟩ := tyV_is I1 r1 ty
  refine ⟨T, id, pa, slot, hty, h1, h2, ?_⟩
  have hA := ha cpos pins s1 σ H1 _ I1 q1
  rw [hs] at hA ⊢
  refine Calls.callWith_builtin (by show (false || (backTo cpos (starEach es X.env)).any (·.1)) = false; rw [hplain] <;> rfl) (Calls.evalArgs_plain ?_)
  exact thn hA fun us s2 zq => zq.elim fun vs H2 I2 r2 q2 => hm pins s2 σ H2 x vs v us Q I2 r1 r2 q2
/- xs.append(e), list.index on a module's tuple .. are MtR facts of 06m -/
end
end L2

namespace L2
open PySem PySem.Spec PyProof.Rows

def MtM (X : Cx) (id : String) (r : V → List V → Hp → VK → Prop) : Prop :=
  ∀ (pins : List (Addr × Obj)) (s : Shared) (σ : St) (H : Hp) (x : V) (xs : List V) (v : Value) (us : List Value) (Q : VK), Inv X pins σ H s → RelV x v → Vals xs us → r x xs H Q →
    wpAny (model X.prog X.w) X.A (call (.builtin id) (v :: us)) (EP X pins σ Q) X.xe s

theorem Vals.zero {us : List Value} (r : Vals [] us) : us = [] := List.eq_nil_of_length_eq_zero (Paired.length r).symm
theorem Vals.one {x : V} {us : List Value} (r : Vals [x] us) : ∃ u, us = [u] ∧ RelV x u := by
  obtain ⟨u, ur, rfl, h, t⟩ := r.inv
  rw [t.zero]
  exact ⟨u, rfl, h⟩
theorem Vals.dropLast {xs : List V} {us : List Value} (h : Vals xs us) : Vals xs.dropLast us.dropLast := by
  induction h with
  | nil => exact .nil
  | cons r t ih =>
    cases t with
    | nil => exact .nil
    | cons q t' => exact .cons r ih
theorem Vals.eraseIdx : ∀ {xs : List V} {us : List Value} (i : Nat), Vals xs us → Vals (xs.eraseIdx i) (us.eraseIdx i)
  | _, _, _, .nil => .nil
  | _, _, 0, .cons _ t => t
  | _, _, i + 1, .cons r t => .cons r (Vals.eraseIdx i t)
theorem Vals.reverse {xs : List V} {us : List Value} (h : Vals xs us) : Vals xs.reverse us.reverse := by
  induction h with
  | nil => exact .nil
  | cons r t ih => rw [List.reverse_cons, List.reverse_cons]; exact Vals.append ih (.cons r .nil)
section
variable {X : Cx} {pins : List (Addr × Obj)} {σ : St} {H : Hp} {s : Shared} {l b : Addr} {xs ys zs : List V}

theorem Inv.lset {its its' : List Value} {n : Nat} {f : Array Value → Array Value} {t' : Nat} (I : Inv X pins σ H s) (hH : H l = some (.lst xs))
    (e : s.heap.get? l = some { cls := .type "list", data := .seq its.toArray n }) (hf : f its.toArray = its'.toArray) (hv : Vals ys its') (hz : ys.length ≤ sizeLine) :
    Inv X pins σ (upd H l (.lst ys)) { s with heap := s.heap.update l (Obj.mapSeq f), toks := t' } := by
  have q := PySem.IsL.update e f
  rw [hf] at q
  refine I.write (x := l) (e := l) (by rw [hH]; exact trivial) (.inl rfl) (fun b' u hb hu => (Heap.get?_update_other s.heap (Obj.mapSeq f) (Ne.symm hb)).trans hu) ⟨_, q⟩ ?_
  exact ⟨hz, its', _, hv, q⟩
theorem Inv.lnew {its : List Value} {t' : Nat} (I : Inv X pins σ H s) (hv : Vals ys its) (hz : ys.length ≤ sizeLine) :
    Inv X pins σ (upd H s.heap.objs.size (.lst ys)) { s with heap := s.heap.push { cls := .type "list", data := .seq its.toArray }, toks := t' } :=
  I.laid (fun _ _ q => Heap.get?_push_of_some _ q) (Nat.le_refl _) ⟨hz, its, 0, hv, Heap.get?_push_size _ rfl⟩
theorem Inv.fresh (I : Inv X pins σ H s) : H s.heap.objs.size = none := I.hok.fresh (Nat.le_refl _)
theorem Inv.lstM (I : Inv X pins σ H s) (hH : H l = some (.lst xs)) : xs.length ≤ sizeLine ∧ ∃ (its : List Value) (n : Nat), Vals xs its ∧ xs.length = its.length ∧ s.heap.get? l = some { cls := .type "list", data := .seq its.toArray n } := by
  obtain ⟨z, its, n, r, e⟩ := I.hok l _ hH
  exact ⟨z, its, n, r, r.length, e⟩

end

section
variable {X : Cx}

inductive rAppendI (x : V) (vs : List V) (H : Hp) (Q : VK) : Prop
  | mk (l : _) (xs : _) (y : _) (x0 : x = .ref l) (x1 : vs = [y]) (x2 : H l = some (.lst xs)) (x3 : xs.length < sizeLine) (x4 : Q .non (upd H l (.lst (xs ++ [y])))) : rAppendI  x vs H Q
def rAppend : V → List V → Hp → VK → Prop := fun x vs H Q => rAppendI  x vs H Q
theorem mt_append : MtM X "list.append" rAppend := by
  intro pins s σ H x vs v us Q I rx rv h
  obtain ⟨l, xs, y, rfl, rfl, hH, hz, q⟩ := h
  cases rx
  obtain ⟨u, rfl, ru⟩ := rv.one
  obtain ⟨z, its, n, r, hl, e⟩ := I.lstM hH
  refine call_meets F.slot_list_append ⟨_, e, rfl⟩ F.entry_list_append (F.args_list_append_2 _ _) (PySem.list_append l its.toArray n u (by rw [List.size_toArray]; omega)) ⟨e, ?_⟩
  refine ⟨.non, _, I.lset (its' := its ++ [u]) hH e (by simp) (r.append (.cons ru .nil)) ?_, rfl, q⟩
  rw [List.length_append, List.length_singleton]
  omega

inductive rExtendI (x : V) (vs : List V) (H : Hp) (Q : VK) : Prop
  | mk (l : _) (b : _) (xs : _) (zs : _) (x0 : x = .ref l) (x1 : vs = [.ref b]) (x2 : H l = some (.lst xs)) (x3 : H b = some (.lst zs)) (x4 : xs.length + zs.length ≤ sizeLine) (x5 : Q .non (upd H l (.lst (xs ++ zs)))) : rExtendI  x vs H Q
inductive rPopI (x : V) (vs : List V) (H : Hp) (Q : VK) : Prop
  | mk (l : _) (xs : _) (y : _) (x0 : x = .ref l) (x1 : vs = []) (x2 : H l = some (.lst xs)) (x3 : xs[xs.length - 1]? = some y) (x4 : Q y (upd H l (.lst xs.dropLast))) : rPopI  x vs H Q
inductive rPopAtI (x : V) (vs : List V) (H : Hp) (Q : VK) : Prop
  | mk (l : _) (xs : _) (i : _) (k : _) (y : _) (x0 : x = .ref l) (x1 : vs = [.int i]) (x2 : H l = some (.lst xs)) (x3 : -(2 ^ 63) ≤ i) (x4 : i < 2 ^ 63) (x5 : seqIndex? i xs.length = some k) (x6 : xs[k]? = some y) (x7 : Q y (upd H l (.lst (xs.eraseIdx k)))) : rPopAtI  x vs H Q
inductive rReverseI (x : V) (vs : List V) (H : Hp) (Q : VK) : Prop
  | mk (l : _) (xs : _) (x0 : x = .ref l) (x1 : vs = []) (x2 : H l = some (.lst xs)) (x3 : Q .non (upd H l (.lst xs.reverse))) : rReverseI  x vs H Q
inductive rClearI (x : V) (vs : List V) (H : Hp) (Q : VK) : Prop
  | mk (l : _) (xs : _) (x0 : x = .ref l) (x1 : vs = []) (x2 : H l = some (.lst xs)) (x3 : Q .non (upd H l (.lst []))) : rClearI  x vs H Q
inductive rCatI (x : V) (y : V) (H : Hp) (Q : VK) : Prop
  | mk (l : _) (b : _) (xs : _) (zs : _) (x0 : x = .ref l) (x1 : y = .ref b) (x2 : H l = some (.lst xs)) (x3 : H b = some (.lst zs)) (x4 : xs.length + zs.length ≤ sizeLine) (x5 : ∀ p, H p = none → Q (.ref p) (upd H p (.lst (xs ++ zs)))) : rCatI  x y H Q
def rCat : R2 := fun x y H Q => rCatI  x y H Q
theorem op_cat : OpR X (binaryOp .Add) rCat := by
  intro pins s σ H x y v u Q I rx ry h
  obtain ⟨l, b, xs, zs, rfl, rfl, hH, hB, hz, q⟩ := h
  cases rx
  cases ry
  obtain ⟨z, its, n, r, hl, e⟩ := I.lstM hH
  obtain ⟨z2, its2, n2, r2, hl2, e2⟩ := I.lstM hB
  refine PySem.P.add_list e e2 ?_ (by rw [List.size_toArray, List.size_toArray]; omega)
  have ea : its.toArray ++ its2.toArray = (its ++ its2).toArray := by simp
  rw [ea]
  exact ⟨.ref _, _, I.lnew (t' := s.toks) (r.append r2) (by rw [List.length_append]; omega), rfl, q _ I.fresh⟩
inductive rRepI (x : V) (y : V) (H : Hp) (Q : VK) : Prop
  | mk (l : _) (k : _) (xs : _) (x0 : x = .ref l) (x1 : y = .int k) (x2 : H l = some (.lst xs)) (x3 : -(2 ^ 63) ≤ k) (x4 : k < 2 ^ 63) (x5 : xs.length * k.toNat ≤ sizeLine) (x6 : ∀ p, H p = none → Q (.ref p) (upd H p (.lst (List.replicate k.toNat xs).flatten))) : rRepI  x y H Q
end

section
variable {prog : Program} {w : World} {A : Around} {E : Value → Shared → Prop} {s : Shared}
end

section
variable {X : Cx}
end
end L2

namespace L2
open PySem PySem.Spec PyProof.Rows

section
variable {κ : Type} [DecidableEq κ]
def valV (kvs : List (κ × V)) (k : κ) : Option V := (kvs.find? fun kv => decide (kv.1 = k)).map (·.2)
def putK (kvs : List (κ × V)) (k : κ) (v : V) : List (κ × V) :=
  if (kvs.any fun kv => decide (kv.1 = k)) = true then kvs.map (fun kv => if kv.1 = k then (kv.1, v) else kv) else kvs ++ [(k, v)]
def dropK (kvs : List (κ × V)) (k : κ) : List (κ × V) := kvs.filter fun kv => decide (kv.1 ≠ k)

theorem valV_pos {p : κ × V} {r : List (κ × V)} {k : κ} (e : p.1 = k) : valV (p :: r) k = some p.2 := by simp [valV, List.find?_cons, e]
theorem valV_neg {p : κ × V} {r : List (κ × V)} {k : κ} (e : ¬ p.1 = k) : valV (p :: r) k = valV r k := by simp [valV, List.find?_cons, e]
theorem valV_any (k : κ) : ∀ kvs : List (κ × V), (kvs.any fun kv => decide (kv.1 = k)) = (valV kvs k).isSome
  | [] => rfl
  | p :: r => by
    rw [List.any_cons]
    by_cases e : p.1 = k
    · simp only [valV_pos e, decide_eq_true e, Bool.true_or, Option.isSome_some]
    · rw [valV_neg e, decide_eq_false e, Bool.false_or]; exact valV_any k r
theorem RelO.isSome_eq {o : Option V} {u : Option Value} (r : RelO o u) : o.isSome = u.isSome := by
  cases o with
  | none => cases u with
    | none => rfl
    | some _ => exact (show False from r).elim
  | some _ => cases u with
    | none => exact (show False from r).elim
    | some _ => rfl
theorem RelO.getD {o : Option V} {u : Option Value} {d : V} {d' : Value} (r : RelO o u) (rd : RelV d d') : RelV (o.getD d) (u.getD d') := by
  cases o with
  | none => cases u with
    | none => exact rd
    | some _ => exact (show False from r).elim
  | some _ => cases u with
    | none => exact (show False from r).elim
    | some _ => exact r

theorem KV.val {kvs : List (κ × V)} {vs : List (κ × Value)} (r : KV kvs vs) (k : κ) : RelO (valV kvs k) (valueAt vs k) := by
  unfold KV at r
  induction r with
  | nil => exact True.intro
  | @cons p q ps qs h t ih =>
    obtain ⟨h1, h2⟩ := h
    by_cases e : p.1 = k
    · have e' : q.1 = k := h1.symm.trans e
      have b : valueAt (q :: qs) k = some q.2 := by simp [valueAt, List.find?_cons, e']
      rw [valV_pos e, b]; exact h2
    · have e' : ¬ q.1 = k := fun z => e (h1.trans z)
      have b : valueAt (q :: qs) k = valueAt qs k := by simp [valueAt, List.find?_cons, e']
      rw [valV_neg e, b]; exact ih
theorem KV.any {kvs : List (κ × V)} {vs : List (κ × Value)} (r : KV kvs vs) (k : κ) : (kvs.any fun kv => decide (kv.1 = k)) = vs.any fun kv => decide (kv.1 = k) := by
  unfold KV at r
  induction r with
  | nil => rfl
  | cons h t ih => rw [List.any_cons, List.any_cons, ih, h.1]
theorem KV.repl {kvs : List (κ × V)} {vs : List (κ × Value)} (r : KV kvs vs) (k : κ) {y : V} {u : Value} (ry : RelV y u) :
    KV (kvs.map fun kv => if kv.1 = k then (kv.1, y) else kv) (vs.map fun kv => if kv.1 = k then (kv.1, u) else kv) := by
  unfold KV at r ⊢
  induction r with
  | nil => exact .nil
  | @cons p q ps qs h t ih =>
    rw [List.map_cons, List.map_cons]
    refine .cons ?_ ih
    obtain ⟨h1, h2⟩ := h
    by_cases e : p.1 = k
    · rw [if_pos e, if_pos (h1.symm.trans e)]; exact ⟨h1, ry⟩
    · rw [if_neg e, if_neg (fun z => e (h1.trans z))]; exact ⟨h1, h2⟩
theorem KV.put {kvs : List (κ × V)} {vs : List (κ × Value)} (r : KV kvs vs) (k : κ) {y : V} {u : Value} (ry : RelV y u) : KV (putK kvs k y) (stored vs k u) := by
  unfold putK stored
  rw [r.any k]
  by_cases e : (vs.any fun kv => decide (kv.1 = k)) = true
  · rw [if_pos e, if_pos e]; exact r.repl k ry
  · rw [if_neg e, if_neg e]; exact Paired.snoc r ⟨rfl, ry⟩
theorem KV.drop {kvs : List (κ × V)} {vs : List (κ × Value)} (r : KV kvs vs) (k : κ) : KV (dropK kvs k) (without vs k) := by
  unfold KV at r ⊢
  unfold dropK without
  induction r with
  | nil => exact .nil
  | @cons p q ps qs h t ih =>
    obtain ⟨h1, h2⟩ := h
    rw [List.filter_cons, List.filter_cons]
    by_cases e : p.1 = k
    · have a : ¬ decide (p.1 ≠ k) = true := by simp [e]
      have b : ¬ decide (q.1 ≠ k) = true := by simp [h1.symm.trans e]
      rw [if_neg a, if_neg b]; exact ih
    · have e' : ¬ q.1 = k := fun z => e (h1.trans z)
      have a : decide (p.1 ≠ k) = true := by simp [e]
      have b : decide (q.1 ≠ k) = true := by simp [e']
      rw [if_pos a, if_pos b]; exact .cons ⟨h1, h2⟩ ih
theorem KV.length {kvs : List (κ × V)} {vs : List (κ × Value)} (r : KV kvs vs) : kvs.length = vs.length := Paired.length r
end


abbrev KT (H : Hp) : List (List Key × V) → List (List Key × Addr × Value) → Prop := Paired fun p q => p.1 = q.1 ∧ H q.2.1 = some (.tup (p.1.map kV)) ∧ RelV p.2 q.2.2
theorem KT.val {H : Hp} {kvs : List (List Key × V)} {xs : List (List Key × Addr × Value)} (r : KT H kvs xs) (k : List Key) : RelO (valV kvs k) ((atKey xs k).map (·.2)) := by
  induction r with
  | nil => exact True.intro
  | @cons p q ps qs h t ih =>
    obtain ⟨h1, _, h2⟩ := h
    by_cases e : p.1 = k
    · have e' : q.1 = k := h1.symm.trans e
      have b : atKey (q :: qs) k = some q.2 := by simp [atKey, List.find?_cons, e']
      rw [valV_pos e, b]; exact h2
    · have e' : ¬ q.1 = k := fun z => e (h1.trans z)
      have b : atKey (q :: qs) k = atKey qs k := by simp [atKey, List.find?_cons, e']
      rw [valV_neg e, b]; exact ih
theorem KT.repl {H : Hp} {kvs : List (List Key × V)} {xs : List (List Key × Addr × Value)} (r : KT H kvs xs) (k : List Key) {y : V} {u : Value} (ry : RelV y u) :
    KT H (kvs.map fun kv => if kv.1 = k then (kv.1, y) else kv) (xs.map (putAt k u)) := by
  induction r with
  | nil => exact .nil
  | @cons p q ps qs h t ih =>
    rw [List.map_cons, List.map_cons]
    refine .cons ?_ ih
    obtain ⟨h1, h2, h3⟩ := h
    unfold putAt
    by_cases e : p.1 = k
    · rw [if_pos e, if_pos (h1.symm.trans e)]; exact ⟨h1, h2, ry⟩
    · rw [if_neg e, if_neg (fun z => e (h1.trans z))]; exact ⟨h1, h2, h3⟩
theorem KT.put {H : Hp} {kvs : List (List Key × V)} {xs : List (List Key × Addr × Value)} (r : KT H kvs xs) (k : List Key) {b : Addr} {y : V} {u : Value} (hb : H b = some (.tup (k.map kV))) (ry : RelV y u) :
    KT H (putK kvs k y) (storedH xs k b u) := by
  have e : (kvs.any fun kv => decide (kv.1 = k)) = (atKey xs k).isSome := by
    rw [valV_any, (r.val k).isSome_eq, Option.isSome_map]
  unfold putK storedH
  rw [e]
  by_cases q : (atKey xs k).isSome = true
  · rw [if_pos q, if_pos q]; exact r.repl k ry
  · rw [if_neg q, if_neg q]; exact Paired.snoc r ⟨rfl, hb, ry⟩
theorem KT.keeps {H H' : Hp} {kvs : List (List Key × V)} {xs : List (List Key × Addr × Value)} (r : KT H kvs xs) (ht : ∀ b ys, H b = some (.tup ys) → H' b = some (.tup ys)) : KT H' kvs xs :=
  Paired.mapP r fun _ _ z => ⟨z.1, ht _ _ z.2.1, z.2.2⟩

section
variable {P : Program} {w : World} {H : Hp} {h : Heap} {a : Addr}
end

def DGet (H : Hp) (a : Addr) (y : V) (r : Option V) : Prop :=
  (∃ kvs k, Rd H a (.dK kvs) ∧ y = kV k ∧ r = valV kvs k) ∨ ∃ kvs k b, Rd H a (.dT kvs) ∧ y = .ref b ∧ H b = some (.tup (k.map kV)) ∧ r = valV kvs k
def DPut (H : Hp) (a : Addr) (y v : V) (H' : Hp) : Prop :=
  (∃ kvs k, H a = some (.dK kvs) ∧ y = kV k ∧ kvs.length < sizeLine ∧ H' = upd H a (.dK (putK kvs k v))) ∨
  ∃ kvs k b, H a = some (.dT kvs) ∧ y = .ref b ∧ H b = some (.tup (k.map kV)) ∧ kvs.length < sizeLine ∧ H' = upd H a (.dT (putK kvs k v))
theorem DGet.k {H : Hp} {a : Addr} {kvs : List (Key × V)} {k : Key} (e : H a = some (.dK kvs)) : DGet H a (kV k) (valV kvs k) := .inl ⟨kvs, k, .inl e, rfl, rfl⟩
theorem DGet.t {H : Hp} {a b : Addr} {kvs : List (List Key × V)} {k : List Key} (e : H a = some (.dT kvs)) (eb : H b = some (.tup (k.map kV))) : DGet H a (.ref b) (valV kvs k) := .inr ⟨kvs, k, b, .inl e, rfl, eb, rfl⟩
theorem DPut.k {H : Hp} {a : Addr} {kvs : List (Key × V)} {k : Key} {v : V} (e : H a = some (.dK kvs)) (hl : kvs.length < sizeLine) : DPut H a (kV k) v (upd H a (.dK (putK kvs k v))) := .inl ⟨kvs, k, e, rfl, hl, rfl⟩
theorem DPut.t {H : Hp} {a b : Addr} {kvs : List (List Key × V)} {k : List Key} {v : V} (e : H a = some (.dT kvs)) (eb : H b = some (.tup (k.map kV))) (hl : kvs.length < sizeLine) :
    DPut H a (.ref b) v (upd H a (.dT (putK kvs k v))) := .inr ⟨kvs, k, b, e, rfl, eb, hl, rfl⟩


section
variable {X : Cx} {pins : List (Addr × Obj)} {σ : St} {H : Hp} {s : Shared} {a : Addr} {y v : V} {u r : Value} {o : Option V} {A : Around} {E : Value → Shared → Prop}

end

section
variable {X : Cx} {pins : List (Addr × Obj)} {σ : St} {H : Hp} {s : Shared} {a : Addr} {kvs : List (Key × V)} {k : Key} {u : Value} {A : Around} {E : Value → Shared → Prop}
end


inductive DgQ (x y : V) (H : Hp) (Q : VK) : Prop
  | mk (a : Addr) (v : V) (e : x = .ref a) (g : DGet H a y (some v)) (q : Q v H) : DgQ x y H Q
inductive DiQ (x y : V) (H : Hp) (Q : VK) : Prop
  | mk (a : Addr) (o : Option V) (e : x = .ref a) (g : DGet H a y o) (q : Q (.bl o.isSome) H) : DiQ x y H Q
inductive DnQ (x y : V) (H : Hp) (Q : VK) : Prop
  | mk (a : Addr) (o : Option V) (e : x = .ref a) (g : DGet H a y o) (q : Q (.bl (!o.isSome)) H) : DnQ x y H Q
section
variable {X : Cx} {o i e value : Expr} {pos pos' tpos : Pos} {td ty tv : TE}
end


section
variable {X : Cx} {pos : Pos}
end

def mergeK (kvs more : List (Key × V)) : List (Key × V) := more.foldl (fun acc kv => putK acc kv.1 kv.2) kvs
structure M1 (X : Cx) (o : Expr) (m : Str) (apos : Pos) (e : Expr) (cpos : Pos) : Prop where
  base : attributeBase o m X.env (eval o X.env) = eval o X.env
  few : ((backTo cpos (starEach [e] X.env)).all (fun x => !x.1) && (backToKw cpos (keywordEach [] X.env)).all (fun x => x.1.isSome)
    && decide (([e] : List Expr).length + ([] : List Keyword).length + (if ([] : List Keyword).isEmpty then 0 else 1) < 30)) = true
  line : (apos.endLine == cpos.line) = true
  trees : backTo cpos (starEach [e] X.env) = [(false, eval e X.env)]
structure M2 (X : Cx) (o : Expr) (m : Str) (apos : Pos) (e f : Expr) (cpos : Pos) : Prop where
  base : attributeBase o m X.env (eval o X.env) = eval o X.env
  few : ((backTo cpos (starEach [e, f] X.env)).all (fun x => !x.1) && (backToKw cpos (keywordEach [] X.env)).all (fun x => x.1.isSome)
    && decide (([e, f] : List Expr).length + ([] : List Keyword).length + (if ([] : List Keyword).isEmpty then 0 else 1) < 30)) = true
  line : (apos.endLine == cpos.line) = true
  trees : backTo cpos (starEach [e, f] X.env) = [(false, eval e X.env), (false, eval f X.env)]

section
variable {X : Cx} {pins : List (Addr × Obj)} {σ : St} {H : Hp} {s : Shared} {a : Addr} {y d : V} {u r : Value} {o : Option V} {A : Around} {E : Value → Shared → Prop}
end

section
variable {X : Cx} {o e f : Expr} {apos cpos : Pos} {td ty tx : TE}
end

section
variable {X : Cx} {pins : List (Addr × Obj)} {σ : St} {H : Hp} {s : Shared} {a : Addr} {kvs : List (Key × V)} {A : Around} {E : Value → Shared → Prop}
end


section
variable {X : Cx} {pins : List (Addr × Obj)} {σ : St} {H : Hp} {s : Shared} {a : Addr} {y : V} {u : Value} {A : Around} {E : Value → Shared → Prop}
end
end L2

namespace Att
open PySem PySem.W PySem.Calls PyProof.Rows

theorem ints_of_wellAll {P : Params} {h : Heap} : ∀ (ns : List Int) (vs : List Value), WellAll P h vs (ns.map WData.int) → IntsAre vs ns := by
  intro ns
  induction ns with
  | nil =>
    intro vs w
    rw [List.map_nil] at w
    cases w
    exact .nil
  | cons n ns ih =>
    intro vs w
    rw [List.map_cons] at w
    cases w with
    | cons a b =>
      cases a
      exact .cons _ _ (ih _ b)

theorem script_of {l : OpenLaw} {n : Nat} (hn : l.most = some n) {P : Params} {h : Heap} {args : List WData} {vals : List Value}
    (hpre : l.row.toRowW.claim.pre args = true) (hwl : WellAll P h vals args) :
    ∃ a vs ns, vals = [Value.ref a] ∧ args = [WData.list (ns.map WData.int)] ∧ h.get? a = some { cls := .type "list", data := .seq vs.toArray } ∧ IntsAre vs ns ∧ ns.length ≤ n := by
  have hsh : WShape.hasAll [] args [.list .int] = true := (pre_splitW hpre).1
  have hc : l.pre.holds [] { args := args } = true := (pre_splitW hpre).2
  obtain ⟨d, r, rfl, h1, h2⟩ := hasAllW_cons hsh
  obtain rfl := hasAllW_nil h2
  obtain ⟨xs, rfl, h3⟩ := hasW_list h1
  obtain ⟨ns, rfl⟩ := items_int h3
  have hlen : ns.length ≤ n := by
    unfold OpenLaw.pre at hc
    have h4 : (WTm.not (.lt (.lit (.int (n : Int))) (.len (.arg 0)))).holds [] { args := [.list (ns.map .int)] } = true := by
      have h4 := (holds_andW hc).1
      rw [hn] at h4
      exact h4
    have h5 := condW_of h4 (w_not (w_lt w_lit (w_len_list (w_arg rfl))))
    rw [List.length_map] at h5
    refine Nat.le_of_not_lt fun q => ?_
    have q' : (n : Int) < ((ns.length : Nat) : Int) := by omega
    first
      | (rw [decide_eq_true q'] at h5; exact absurd h5 (by decide))
      | (simp at h5; omega)
  cases hwl with
  | cons w1 w2 =>
    cases w2
    cases w1 with
    | list ho hall => exact ⟨_, _, ns, rfl, rfl, ho, ints_of_wellAll ns _ hall, hlen⟩

theorem post_true (l : OpenLaw) (args : List WData) : l.row.toRowW.claim.post args (.bool true) args = true :=
  postW_of (r := l.row.toRowW) (X := (true == true))
    (show WShape.has [] (.bool true) .bool = true by first | rfl | decide | simp [WShape.has, WShape.arms, WShape.armsAll])
    (show (WTm.eq .res (.lit (.bool true))).value [] { args := args, res := some (.bool true), after := args } = some (.bool (true == true)) from w_eq_bool (w_res rfl) w_lit) rfl

theorem attach_call {l : OpenLaw} {n : Nat} {q : Program} {loose : List Str} {XP : (Str → Option Value) → Heap → Prop} {YP : World → Heap → Prop} {d : DefRec}
    (hn : l.most = some n) (hdf : d.params.defaults = [])
    (call : ∀ (w : World) (s₀ s₁ : Shared) (mg mb : Str → Option Value) (fa : Addr) (o : Obj) (pm cd doc : Value) (a : Addr) (vs : List Value) (ns : List Int),
      Ground q loose [] XP w s₀ mg mb s₁.heap → YP w s₁.heap →
      s₁.heap.get? fa = some o → o.data = .func (docDef d.name d.params d.body d.scope pm cd doc) → s₁.heap.CodeRec cd d.name → mg d.name = some (.ref fa) →
      s₁.heap.get? a = some { cls := .type "list", data := .seq vs.toArray } → IntsAre vs ns → ns.length ≤ n → s₁.gens = #[] →
      codeAny (model l.prog w) callerA (.call (.ref fa) ⟨[.ref a], []⟩) (fun r s' => r = .ok (.ret (.bool true)) ∧ OldK s₁.heap s'.heap ∧ s'.os = s₁.os ∧ AllBare s'.gens) s₁) :
    WalkO q loose XP YP l.row.toRowW d [] (fun f vs => PySem.call f vs) := by
  intro w s₀ s₁ mg mb G Y fa o pm cd doc dV kV ho hd hcd hD hmg hg args vals as hpre hlay hrd hwl hlo
  obtain rfl : dV = .none := Dflts.none hD hdf
  obtain rfl : kV = .none := Dflts.noKw hD
  obtain ⟨a, vs, ns, rfl, rfl, hobj, hints, hlen⟩ := script_of hn hpre hwl
  refine enter_call (codeAny_mono (call w s₀ s₁ mg mb fa o pm cd doc a vs ns G Y ho (fd_plain hd) hcd hmg hobj hints hlen hg) fun r s' hq => ?_)
  obtain ⟨rfl, h2, h3, h4⟩ := hq
  exact ⟨.inl ⟨.bool true, .bool true, [], rfl, fun _ => rfl, .bool true, post_true l _, fun _ => ⟨List.Pairwise.nil, fun _ hm => (nomatch hm)⟩⟩, h2, h3, h4⟩

section
variable {prog : Program} {w : World} {A : Around} {E : Value → Shared → Prop} {s : Shared} {K : Frag}

end
end Att

namespace L2
open PySem PySem.Spec PyProof.Rows

theorem vals_ints {vs : List Value} {ns : List Int} (h : IntsAre vs ns) : Vals (ns.map V.int) vs := by
  induction h with
  | nil => exact .nil
  | cons n t _ ih => exact .cons ⟨t, rfl⟩ ih

def Only (H : Hp) : Prop := ∀ b, H b = none ∨ ∃ o xs, H b = some (.frz o (.lst xs))

theorem law_call {P : Program} {w : World} {K : PySem.W.Frag} {mg mb : Str → Option Value} {CX : CXT} {k : Nat} {fa a : Addr} {fd : FuncData} {x : Str} {sp : Sp} {s₁ : Shared} {vs : List Value} {ns : List Int}
    (KX : K.In s₁.heap) (hns : s₁.heap.Ns mainGlobals mg) (hb : s₁.heap.Ns builtinsNs mb) (hbb : ∀ x : Str, x ≠ "__name__" → mb x = bootBuiltins x) (hlim : s₁.heap.NoLimit) (hg : s₁.gens = #[])
    (ha : s₁.heap.get? a = some { cls := .type "list", data := .seq vs.toArray }) (hi : IntsAre vs ns) (hl : ns.length ≤ sizeLine) (hr : Room k callerA)
    (F : ∀ base : Heap, K.In base → base.Ns mainGlobals mg → FnOk P w K mg base CX k fa fd [x] sp) (hbind : ∀ (s : Shared) (u : Value), BindsTo s fd ⟨[u], []⟩ [(x, u)])
    (hsp : ∀ H : Hp, Only H → SqL K H a (ns.map V.int) → sp [.ref a] H (fun v _ => v = .bl true) fun _ _ _ => False)
    (hCX : ∀ H e s', CX [] H s₁ (fun _ _ _ => False) e s' → False) :
    codeAny (model P w) callerA (.call (.ref fa) ⟨[.ref a], []⟩) (fun r s' => r = .ok (.ret (.bool true)) ∧ OldK s₁.heap s'.heap ∧ s'.os = s₁.os ∧ AllBare s'.gens) s₁ := by
  have rv := vals_ints hi
  have lenV := hi.length
  have core : ∀ H : Hp, Only H → SqL K H a (ns.map V.int) → HOk P w H s₁.heap → (∀ b, H b ≠ none → b = a) → (H a ≠ none → K.lookup a = none) →
      codeAny (model P w) callerA (.call (.ref fa) ⟨[.ref a], []⟩) (fun r s' => r = .ok (.ret (.bool true)) ∧ OldK s₁.heap s'.heap ∧ s'.os = s₁.os ∧ AllBare s'.gens) s₁ := by
    intro H hO hS hok hA hK
    have base_of : ∀ {b : Addr} {o : Obj}, s₁.heap.get? b = some o → H b = none → (hidT s₁.heap H).get? b = some o := fun e n => hidT_get e n
    have noA : ∀ {b : Addr} {o : Obj} {es : Array DictEntry} {ep : Nat}, s₁.heap.get? b = some o → o.data = .dict es ep → H b = none := fun {b o es ep} e d => by
      cases q : H b with
      | none => rfl
      | some u =>
        have e' : b = a := hA b (by rw [q]; simp)
        subst e'
        rw [ha] at e; cases e
        have d' : Data.seq vs.toArray _ = Data.dict es ep := d
        cases d'
    have nsK : ∀ {b : Addr} {m : Str → Option Value}, s₁.heap.Ns b m → (hidT s₁.heap H).Ns b m := fun {b m} ⟨o, es, ep, e, d, r⟩ => ⟨o, es, ep, base_of e (noA e d), d, r⟩
    have hKb : K.In (hidT s₁.heap H) := fun b o e => base_of (KX b o e) (by
      cases q : H b with
      | none => rfl
      | some u =>
        have e' : b = a := hA b (by rw [q]; simp)
        subst e'
        rw [hK (by rw [q]; simp)] at e; cases e)
    have hM : Mod K mg (hidT s₁.heap H) := ⟨hKb, nsK hns, ⟨mb, nsK hb, hbb⟩, let ⟨mc, h1, h2⟩ := hlim; ⟨mc, nsK h1, h2⟩⟩
    have e0 : Env0 P w K mg (hidT s₁.heap H) callerA [] s₁ H := ⟨rfl, hM, fun b o e => of_hidT e, Nat.le_of_eq (hidT_size _ _), trivial, fun b hb => absurd (show b ∈ ([] : List Addr) from hb) (by simp), hok, .of_eq hg⟩
    refine codeAny_mono ((F _ hKb (nsK hns)).run callerA [] s₁ H ⟨[.ref a], []⟩ [.ref a] [.ref a] _ _ hr e0 (hbind s₁ (.ref a)) (.cons rfl .nil) (hsp H hO hS)) fun r s' h => ?_
    cases r with
    | error e => exact (hCX H e s' h).elim
    | ok fl =>
      cases fl with
      | next => exact False.elim h
      | brk => exact False.elim h
      | cont => exact False.elim h
      | ret u =>
        obtain ⟨v, H', os, bare, un, hok', r', q⟩ := h
        have q' : v = .bl true := q
        subst q'
        obtain rfl : u = Value.bool true := r'
        refine ⟨rfl, OldK.of_keep fun b o e => ?_, os, bare⟩
        cases q : H b with
        | none => exact un.keep b o e q (by intro z; exact absurd (show b ∈ ([] : List Addr) from z) (by simp)) (by simp)
        | some u =>
          rcases hO b with z | ⟨ob, xs, z⟩
          · rw [q] at z; cases z
          · have z2 := un.frzs b ob _ z
            obtain ⟨e1, _⟩ := hok b _ z
            obtain ⟨e2, _⟩ := hok' b _ z2
            rw [e] at e1; cases e1
            exact e2
  cases hk : K.lookup a with
  | some o =>
    have e := KX a o hk
    rw [ha] at e
    cases e
    refine core (fun _ => none) (fun _ => .inl rfl) (.inr ⟨_, vs.toArray, _, hk, rfl, rfl, rfl, by rw [List.size_toArray, lenV]; exact hl, by simpa using rv⟩) (fun b u z => by have z' : (none : Option HO) = some u := z; cases z') (fun b z => absurd rfl z) fun z => absurd rfl z
  | none =>
    refine core (fun b => if b = a then some (.frz { cls := .type "list", data := .seq vs.toArray } (.lst (ns.map V.int))) else none) (fun b => ?_) (.inl (.inr ⟨{ cls := .type "list", data := .seq vs.toArray }, if_pos rfl⟩)) (fun b u z => ?_) (fun b z => ?_) fun _ => hk
    · by_cases hb : b = a
      · exact .inr ⟨_, _, if_pos hb⟩
      · exact .inl (if_neg hb)
    · by_cases hb : b = a
      · have z' := (if_pos hb).symm.trans z
        cases z'
        subst hb
        exact ⟨ha, by rw [List.length_map]; exact hl, vs, _, rv, ha⟩
      · have z' := (if_neg hb).symm.trans z
        cases z'
    · by_cases hb : b = a
      · exact hb
      · exact absurd (if_neg hb) z
end L2

namespace L2
open PySem PySem.Spec PyProof.Rows

theorem walk_of {l : PySem.W.OpenLaw} {n k : Nat} {q : Program} {loose : List Str} {XP : (Str → Option Value) → Heap → Prop} {YP : World → Heap → Prop} {d : DefRec} {K : Params → PySem.W.Frag} {CX : World → CXT} {sp : World → Sp} {x : Str}
    (hn : l.most = some n) (hn2 : n ≤ sizeLine) (hdf : d.params.defaults = []) (hr : Room k callerA)
    (hY : ∀ (w : World) (h : Heap), YP w h → (K w.params).In h)
    (F : ∀ (w : World) (mg : Str → Option Value) (fa : Addr) (h : Heap), (K w.params).In h → h.Ns mainGlobals mg → mg d.name = some (.ref fa) →
      ∃ fd : FuncData, (∀ (s : Shared) (u : Value), BindsTo s fd ⟨[u], []⟩ [(x, u)]) ∧
        ∀ base : Heap, (K w.params).In base → base.Ns mainGlobals mg → FnOk l.prog w (K w.params) mg base (CX w) k fa fd [x] (sp w))
    (hsp : ∀ (w : World) (H : Hp) (a : Addr) (ns : List Int), ns.length ≤ n → Only H → SqL (K w.params) H a (ns.map V.int) → sp w [.ref a] H (fun v _ => v = .bl true) fun _ _ _ => False)
    (hCX : ∀ (w : World) (H : Hp) (s : Shared) (e : Value) (s' : Shared), CX w [] H s (fun _ _ _ => False) e s' → False) :
    PySem.W.WalkO q loose XP YP l.row.toRowW d [] (fun f vs => PySem.call f vs) := by
  refine Att.attach_call hn hdf fun w s₀ s₁ mg mb fa o pm cd doc a vs ns G Y ho hd hcd hmg hobj hints hlen hg => ?_
  have KX := hY w _ Y
  obtain ⟨fd, hb, hF⟩ := F w mg fa _ KX G.T.g hmg
  exact law_call KX G.T.g G.T.b G.T.builtins G.T.nolimit hg hobj hints (Nat.le_trans hlen hn2) hr hF hb (fun H hO hS => hsp w H a ns hlen hO hS) fun H e s' => hCX w H s₁ e s'
end L2



namespace L2
open PySem PySem.Spec PyProof.Rows

def inClass (s : Stmt) (j : Nat) : Stmt := match s with
  | .ClassDef _ _ _ body _ _ _ _ _ _ _ => body.getD j (.Pass ⟨0, 0, 0, 0⟩)
  | _ => .Pass ⟨0, 0, 0, 0⟩
def defArgs (s : Stmt) : Arguments := match s with
  | .FunctionDef _ a _ _ _ _ _ _ _ _ => a
  | _ => { posonlyargs := [], args := [], vararg := none, kwonlyargs := [], kw_defaults := [], kwarg := none, defaults := [] }
def defBody (s : Stmt) : List Stmt := match s with
  | .FunctionDef _ _ b _ _ _ _ _ _ _ => b
  | _ => []
def defScope (s : Stmt) : Scope := match s with
  | .FunctionDef _ _ _ _ _ _ sc _ _ _ => sc
  | _ => { kind := .function, names := [], isGenerator := false, isCoroutine := false }

abbrev CX0 : CXT := fun _ _ _ _ _ _ => False
abbrev E0 : XK := fun _ _ _ => False
theorem pass0 {X : Cx} : Passes CX0 X E0 := fun _ _ _ _ _ _ _ h => h.elim

structure Fun (K : PySem.W.Frag) (x qual : Str) (st : Stmt) (f : Addr) (fd : FuncData) : Prop where
  ex : ∃ (oc : Value) (od : Option Addr) (kV doc pm : Value) (an : Option Addr) (cdv ct : Value) (osl : Array (Option Value)),
    fd = PySem.W.fnOf x qual (defArgs st) (defBody st) (defScope st) .none kV doc pm an cdv ct ∧ K.lookup f = some ⟨oc, od, .func fd, osl⟩ ∧ PySem.W.codeIn K cdv qual = true
  kp : PySem.W.keepIn K (.ref f) = true
section
variable {P : Program} {w : World} {K : PySem.W.Frag} {mg : Str → Option Value} {base : Heap}
theorem Fun.ok {x qual : Str} {st : Stmt} {f : Addr} {fd : FuncData} {N ps : List Str} {k : Nat} {sp : Sp} (F : Fun K x qual st f fd) (S : FnScope N ps (defScope st)) (len : ∀ vs H Q E, sp vs H Q E → vs.length = ps.length)
    (hbody : ∀ (cdv : Value) (A : Around) (outer : List Env) (s : Shared) (H : Hp) (vs : List V) (Q : VK) (E : XK), Room k (A.deeper (envOfC qual (defScope st) s.heap.objs.size f cdv)) → sp vs H Q E →
      ∃ t, PSs (cxOf CX0 P w K mg base N qual (defScope st) f cdv A outer s H E).nox (defBody st) t ∧ t { nx := fun _ H' => Q .non H', rt := Q } (start N vs) H) : FnOk P w K mg base CX0 (k + 1) f fd ps sp := by
  obtain ⟨oc, od, kV, doc, pm, an, cdv, ct, osl, rfl, lk, hcd⟩ := F.ex
  refine fn_of lk hcd S len fun A outer s H vs Q E hr hsp => ?_
  obtain ⟨t, h, q⟩ := hbody cdv A outer s H vs Q E hr hsp
  exact ⟨t, h.nox, q⟩
theorem Fun.binds {x qual : Str} {st : Stmt} {f : Addr} {fd : FuncData} {ps : List Str} (F : Fun K x qual st f fd)
    (h : ∀ (kV doc pm : Value) (an : Option Addr) (cdv ct : Value) (us : List Value), us.length = ps.length → bindArgs (PySem.W.fnOf x qual (defArgs st) (defBody st) (defScope st) .none kV doc pm an cdv ct) ⟨us, []⟩ = pure (ps.zip us)) : Binds K fd ps [] := by
  obtain ⟨oc, od, kV, doc, pm, an, cdv, ct, osl, rfl, lk, hcd⟩ := F.ex
  exact .all (h kV doc pm an cdv ct)
theorem fun_mk {x qual : Str} {st : Stmt} {f : Addr} {oc : Value} {od an : Option Addr} {osl : Array (Option Value)} {kV doc pm cdv ct : Value} (l : K.lookup f = some ⟨oc, od, .func (PySem.W.fnOf x qual (defArgs st) (defBody st) (defScope st) .none kV doc pm an cdv ct), osl⟩)
    (c : PySem.W.codeIn K cdv qual = true) (k : PySem.W.keepIn K (.ref f) = true) : Fun K x qual st f (PySem.W.fnOf x qual (defArgs st) (defBody st) (defScope st) .none kV doc pm an cdv ct) := ⟨⟨oc, od, kV, doc, pm, an, cdv, ct, osl, rfl, l, c⟩, k⟩
end
theorem hu_of {A : Around} {k : Nat} (hr : Room k A) : A.units + 1 < cLine := Nat.lt_of_le_of_lt (Nat.add_le_add_left (by decide : 1 ≤ 64) _) hr.units
theorem small1000 {n : Nat} (h : n ≤ 1000) : n < sizeLine := Nat.lt_of_le_of_lt h (by decide)

section
variable {X : Cx}
theorem pv (i : Nat) {x : Str} {pos : Pos} (hN : X.N[i]? = some x := by rfl) (hv : Vis X.env.scope x := by first | exact Or.inl rfl | exact Or.inr (Or.inl rfl) | exact Or.inr (Or.inr rfl)) (hd : (x == ("__debug__" : Str)) = false := by decide)
    (hcd : (x == ("__classdict__" : Str)) = false := by decide) : PE X (.Name x pos) (tVar i) := pe_var hN hv hd hcd
inductive r_call_lenDI (xs : List V) (H : Hp) (Q : VK) : Prop
  | mk (a : _) (kvs : _) (h0_ : xs = [V.ref a]) (h1_ : H a = some (.dK kvs)) (h2_ : Q (.int kvs.length) H) : r_call_lenDI xs H Q
end

theorem iteF {A B : Prop} (h : B) : if false = true then A else B := by
  rw [if_neg Bool.false_ne_true]
  exact h
theorem iteT {A B : Prop} (h : A) : if true = true then A else B := by
  rw [if_pos rfl]
  exact h
theorem ite2 {c A B : Prop} [Decidable c] (h1 : c → A) (h2 : ¬ c → B) : if c then A else B := by
  by_cases h : c
  · rw [if_pos h]
    exact h1 h
  · rw [if_neg h]
    exact h2 h
def Same (H H' : Hp) : Prop := ∀ b o, H b = some o → H' b = some o
theorem Same.refl (H : Hp) : Same H H := fun _ _ h => h
theorem Same.trans {H H1 H2 : Hp} (a : Same H H1) (b : Same H1 H2) : Same H H2 := fun c o h => b c o (a c o h)
theorem Same.free {H H' : Hp} (e : Same H H') {l : Addr} (h : H' l = Option.none) : H l = Option.none := by
  cases q : H l with
  | none => rfl
  | some o =>
    rw [e l o q] at h
    cases h
theorem Same.seq {K : PySem.W.Frag} {H H' : Hp} {a : Addr} {xs : List V} (e : Same H H') (h : SqL K H a xs) : SqL K H' a xs := by
  rcases h with (h | ⟨o, h⟩) | h
  · exact .inl (.inl (e _ _ h))
  · exact .inl (.inr ⟨o, e _ _ h⟩)
  · exact .inr h

section
variable {κ : Type} [DecidableEq κ]
end
end L2

set_option Elab.async false
set_option linter.all false
set_option maxRecDepth 100000
set_option maxHeartbeats 4000000
namespace L2
open PySem PySem.Spec PyProof.Rows
theorem comp_turns {prog : Program} {w : World} {A : Around} {R : Result → Shared → Prop} {elt tg iter : Expr} {ifs : List Expr} {scope : Scope} {pos : Pos} {it acc : Value} {env : Env} (Iv : Nat → Shared → Prop)
    (step : ∀ n s, Iv n s → wpAny (model prog w) A (pyNext it) (fun r s1 => match r with
      | none => R (.ok .next) s1
      | some v => wpAny (model prog w) A (letOwnedTupleGo tg it v) (fun _ s2 => wpAny (model prog w) A (assign tg env v) (fun _ s3 =>
          wpAny (model prog w) A (forIn ifs true fun c r => if r = true then do let ok ← isTrue c env (eval c env); pure (ForInStep.yield ok) else pure (ForInStep.yield r)) (fun ok s4 =>
            if ok = true then wpAny (model prog w) A (eval elt env) (fun y s5 => wpAny (model prog w) A (call (.builtin "list.append") [acc, y]) (fun _ s6 => ∃ m, m < n ∧ Iv m s6) (fun _ _ => False) s5) (fun _ _ => False) s4
            else ∃ m, m < n ∧ Iv m s4) (fun _ _ => False) s3) (fun _ _ => False) s2) (fun _ _ => False) s1) (fun _ _ => False) s)
    (n : Nat) {s : Shared} (h : Iv n s) : codeAny (model prog w) A (.compLoop (.ListComp elt [⟨tg, iter, ifs, 0⟩] scope pos) 0 it acc env) R s := by
  have up : ∀ {α : Type} {t : Sem α} {Q : α → Shared → Prop} {E : Value → Shared → Prop} {s : Shared}, wpAny (model prog w) A t Q (fun _ _ => False) s → wpAny (model prog w) A t Q E s :=
    fun h => wpAny_mono h (fun _ _ q => q) fun _ _ z => z.elim
  refine codeAny_loop rfl Iv (fun k s hI => ?_) n h
  show wpAny _ A ((compTurn (.ListComp elt [⟨tg, iter, ifs, 0⟩] scope pos) 0 it acc env).onRaise (fun x => do noteFrame x env; theTreesLotGoes x)) _ _ s
  refine wpAny_noted ?_
  rw [compTurn_list]
  refine wpAny_bind (wpAny_standAt (wpAny_bind (wpAny_mono (up (step k s hI)) (fun r s1 h1 => ?_) fun _ _ z => z)))
  cases r with
  | none => exact wpAny_pure h1
  | some v =>
    refine wpAny_bind (wpAny_mono (up h1) (fun _ s2 h2 => ?_) fun _ _ z => z)
    refine wpAny_bind (wpAny_mono (up h2) (fun _ s3 h3 => ?_) fun _ _ z => z)
    refine wpAny_bind (wpAny_mono (up h3) (fun ok s4 h4 => ?_) fun _ _ z => z)
    cases ok with
    | false => exact wpAny_pure ⟨rfl, h4⟩
    | true =>
      have h4 : wpAny (model prog w) A (eval elt env) (fun y s5 => wpAny (model prog w) A (call (.builtin "list.append") [acc, y]) (fun _ s6 => ∃ m, m < k ∧ Iv m s6) (fun _ _ => False) s5) (fun _ _ => False) s4 := h4
      exact wpAny_bind (wpAny_bind (wpAny_mono (up h4) (fun y s5 h5 => wpAny_bind (wpAny_mono (up h5) (fun _ s6 h6 => wpAny_pure (wpAny_pure ⟨rfl, h6⟩)) fun _ _ z => z)) fun _ _ z => z))

def closL (cells : List (Str × Addr)) : List (Str × NameKind) → List (Str × Addr) → List (Str × Addr)
  | [], acc => acc
  | (n, k) :: r, acc => if k == .free then closL cells r ((n, (cells.lookup n).getD 0) :: acc) else closL cells r acc
theorem closL_lookup {cells : List (Str × Addr)} {x : Str} {c : Addr} : ∀ (names : List (Str × NameKind)) (acc : List (Str × Addr)), (∀ p ∈ names, p.2 = .free → ∃ c, cells.lookup p.1 = some c) →
    (∀ y d, acc.lookup y = some d → cells.lookup y = some d) → (closL cells names acc).lookup x = some c → cells.lookup x = some c
  | [], acc, _, h2, h => h2 x c h
  | (n, k) :: r, acc, h1, h2, h => by
    unfold closL at h
    by_cases hk : (k == NameKind.free) = true
    · rw [if_pos hk] at h
      have ek : k = .free := by simpa using hk
      obtain ⟨d, hd⟩ := h1 (n, k) List.mem_cons_self ek
      refine closL_lookup r _ (fun p hp => h1 p (List.mem_cons_of_mem _ hp)) (fun y e hy => ?_) h
      rw [List.lookup_cons] at hy
      cases hyn : y == n with
      | true =>
        rw [hyn] at hy
        have : y = n := by simpa using hyn
        subst this
        have hd' : List.lookup y cells = some d := hd
        rw [hd'] at hy ⊢
        exact hy
      | false =>
        rw [hyn] at hy
        exact h2 y e hy
    · rw [if_neg hk] at h
      exact closL_lookup r acc (fun p hp => h1 p (List.mem_cons_of_mem _ hp)) h2 h
theorem closL_has {cells : List (Str × Addr)} {x : Str} : ∀ (names : List (Str × NameKind)) (acc : List (Str × Addr)), ((acc.lookup x).isSome = true ∨ (x, NameKind.free) ∈ names) → ((closL cells names acc).lookup x).isSome = true
  | [], acc, h => h.elim (fun z => z) fun z => nomatch z
  | (n, k) :: r, acc, h => by
    unfold closL
    by_cases hk : (k == NameKind.free) = true
    · rw [if_pos hk]
      refine closL_has r _ ?_
      rcases h with h | h
      · refine .inl ?_
        rw [List.lookup_cons]
        cases x == n <;> simp [h]
      · rcases List.mem_cons.mp h with e | e
        · refine .inl ?_
          have : x = n := congrArg Prod.fst e
          subst this
          rw [List.lookup_cons]
          simp
        · exact .inr e
    · rw [if_neg hk]
      refine closL_has r _ ?_
      rcases h with h | h
      · exact .inl h
      · rcases List.mem_cons.mp h with e | e
        · have : NameKind.free = k := congrArg Prod.snd e
          subst this
          exact absurd rfl hk
        · exact .inr e
theorem closureFor_closL {scope : Scope} {env : Env} (h : ∀ p ∈ scope.names, p.2 = .free → ∃ c, env.cells.lookup p.1 = some c) : closureFor scope env = pure (closL env.cells scope.names []) := by
  have go : ∀ (names : List (Str × NameKind)) (acc : List (Str × Addr)), (∀ p ∈ names, p.2 = .free → ∃ c, env.cells.lookup p.1 = some c) →
      (forIn names acc (fun (x : Str × NameKind) r => if (x.2 == NameKind.free) = true then do let a ← cellOf env x.1; pure (ForInStep.yield ((x.1, a) :: r)) else pure (ForInStep.yield r)) : Sem (List (Str × Addr))) = pure (closL env.cells names acc) := by
    intro names
    induction names with
    | nil => intro acc _; rfl
    | cons p r ih =>
      intro acc h1
      obtain ⟨n, k⟩ := p
      rw [List.forIn_cons]
      unfold closL
      by_cases hk : (k == NameKind.free) = true
      · have ek : k = .free := by simpa using hk
        obtain ⟨c, hc⟩ := h1 (n, k) List.mem_cons_self ek
        have hc : List.lookup n env.cells = some c := hc
        have e : cellOf env n = pure c := by unfold cellOf; rw [hc]
        simp only [hk, if_true, e, hc, Option.getD_some]
        exact ih _ fun p hp => h1 p (List.mem_cons_of_mem _ hp)
      · simp only [hk, if_false]
        exact ih _ fun p hp => h1 p (List.mem_cons_of_mem _ hp)
  unfold closureFor
  exact Eq.trans (congrArg (fun t : Sem (List (Str × Addr)) => t >>= fun cs => pure cs) (go scope.names [] h)) rfl
end L2

namespace L2
open PySem PySem.Spec PyProof.Rows
def relG (env : Env) (n : Str) (k : NameKind) : NameKind := if (k == .free && env.scope.kind == .function && env.kindOf n == some .cell) = true then .cell else k
theorem lookup_kinds {g : Str → NameKind → NameKind} (y : Str) : ∀ names : List (Str × NameKind), (names.map fun p => (p.1, g p.1 p.2)).lookup y = (names.lookup y).map (g y)
  | [] => rfl
  | (n, k) :: r => by
    rw [List.map_cons, List.lookup_cons, List.lookup_cons]
    cases e : y == n with
    | true =>
      have : y = n := by simpa using e
      subst this
      rfl
    | false => exact lookup_kinds y r
theorem relabel_lookup (scope : Scope) (env : Env) (y : Str) : (relabel scope env).names.lookup y = (scope.names.lookup y).map (relG env y) := by
  have e : (relabel scope env).names = scope.names.map fun p => (p.1, relG env p.1 p.2) := by
    unfold relabel
    refine List.map_congr_left fun p _ => ?_
    obtain ⟨n, k⟩ := p
    show (if (k == NameKind.free && env.scope.kind == .function && env.kindOf n == some .cell) = true then (n, NameKind.cell) else (n, k)) = (n, if (k == NameKind.free && env.scope.kind == .function && env.kindOf n == some .cell) = true then NameKind.cell else k)
    by_cases h : (k == NameKind.free && env.scope.kind == .function && env.kindOf n == some .cell) = true
    · rw [if_pos h, if_pos h]
    · rw [if_neg h, if_neg h]
  rw [e]
  exact lookup_kinds y _
def pickS (σ : St) (fs : List Nat) : St := fs.map fun i => (σ[i]?).join
theorem pickS_get {σ : St} {fs : List Nat} {j : Nat} {v : V} (h : (pickS σ fs)[j]? = some (some v)) : ∃ i, fs[j]? = some i ∧ σ[i]? = some (some v) := by
  unfold pickS at h
  rw [List.getElem?_map] at h
  cases e : fs[j]? with
  | none => rw [e] at h; cases h
  | some i =>
    rw [e] at h
    refine ⟨i, rfl, ?_⟩
    have h' : (σ[i]?).join = some v := Option.some.inj h
    cases e2 : σ[i]? with
    | none => rw [e2] at h'; cases h'
    | some o =>
      rw [e2] at h'
      have h' : o = some v := h'
      rw [h']
structure CompOk (X : Cx) (scope : Scope) (x : Str) (fv : List Str) (fs : List Nat) : Prop where
  kind : scope.kind = .function
  nocell : ∀ p ∈ scope.names, p.2 ≠ .cell
  names : ∀ p ∈ scope.names, p.2 = .local → scope.names.lookup p.1 = some .local
  tg : scope.names.lookup x = some .local
  free : ∀ p ∈ scope.names, p.2 = .free → X.env.scope.names.lookup p.1 = some .cell
  nd : (x :: fv).Nodup
  fvs : ∀ (j : Nat) y, fv[j]? = some y → ∃ i, fs[j]? = some i ∧ X.N[i]? = some y ∧ scope.names.lookup y = some .free
  len : fv.length = fs.length
def compChk (sc : Scope) (N : List Str) (scope : Scope) (x : Str) (fv : List Str) (fs : List Nat) : Bool :=
  scope.kind == .function && (scope.names.all fun p => p.2 != .cell) && (scope.names.all fun p => p.2 != .local || scope.names.lookup p.1 == some .local) && scope.names.lookup x == some .local &&
  (scope.names.all fun p => p.2 != .free || sc.names.lookup p.1 == some .cell) && decide (x :: fv).Nodup && fs.map (N[·]?) == fv.map some && (fv.all fun y => scope.names.lookup y == some .free)
theorem CompOk.of {X : Cx} {scope : Scope} {x : Str} {fv : List Str} {fs : List Nat} (h : compChk X.env.scope X.N scope x fv fs = true) : CompOk X scope x fv fs := by
  unfold compChk at h
  simp only [Bool.and_eq_true, List.all_eq_true, Bool.or_eq_true, bne_iff_ne, beq_iff_eq, decide_eq_true_eq] at h
  obtain ⟨⟨⟨⟨⟨⟨⟨h1, h2⟩, h3⟩, h4⟩, h5⟩, h6⟩, h7⟩, h8⟩ := h
  have hlen : fs.length = fv.length := by
    have := congrArg List.length h7
    simpa using this
  refine ⟨h1, h2, fun p hp hk => (h3 p hp).resolve_left fun z => z hk, h4, fun p hp hk => (h5 p hp).resolve_left fun z => z hk, h6, fun j y e => ?_, hlen.symm⟩
  have hj : j < fv.length := (List.getElem?_eq_some_iff.mp e).1
  have e7 := congrArg (fun l => l[j]?) h7
  simp only [List.getElem?_map, e] at e7
  have hj' : j < fs.length := by omega
  rw [List.getElem?_eq_getElem hj'] at e7
  refine ⟨fs[j], List.getElem?_eq_getElem hj', ?_, h8 y (List.mem_of_getElem? e)⟩
  simpa using e7
abbrev compX (X : Cx) (N' : List Str) (scope : Scope) (C : Addr) (s0 : Shared) (H0 : Hp) (fp : List Addr) : Cx where
  prog := X.prog
  w := X.w
  K := X.K
  mg := X.mg
  base := X.base
  A := X.A
  N := N'
  s₀ := s0
  H₀ := H0
  env := compEnvC scope (closL X.env.cells scope.names []) C X.env
  outer := X.stack
  stack := X.stack
  ex := fp
  fn := fun _ => false
  calm := X.calm
  pn := []
  xe := fun _ _ => False
section
variable {X : Cx} {pins : List (Addr × Obj)} {σ : St} {H H' : Hp} {s s' : Shared} {scope : Scope} {x : Str} {fv : List Str} {fs : List Nat} {fp : List Addr}
theorem CompOk.cells (ok : CompOk X scope x fv fs) (I : Inv X pins σ H s) : ∀ p ∈ scope.names, p.2 = .free → ∃ c, X.env.cells.lookup p.1 = some c := fun p hp hk => I.ok.has p.1 (.inl (ok.free p hp hk))
theorem CompOk.look (ok : CompOk X scope x fv fs) (I : Inv X pins σ H s) {y : Str} {c : Addr} (h : (closL X.env.cells scope.names []).lookup y = some c) : X.env.cells.lookup y = some c :=
  closL_lookup scope.names [] (ok.cells I) (fun _ _ z => by cases z) h
theorem comp_enter (ok : CompOk X scope x fv fs) (I : Inv X pins σ H s) (hf : ∀ b ∈ fp, FpOk X pins H b) (hfo : ∀ b ∈ fp, ∃ o, s.heap.get? b = some o) {h1 : Heap} {m : Str → Option Value} {tk : Nat} (hn : h1.Ns s.heap.objs.size m)
    (kept : ∀ b o, s.heap.get? b = some o → h1.get? b = some o) : Inv (compX X (x :: fv) scope s.heap.objs.size s H fp) [] (none :: pickS σ fs) H { s with heap := h1, toks := tk } := by
  have cl := fun {y c} => ok.look I (y := y) (c := c)
  have hkk : X.env.scope.kind = .function := I.ok.kind
  refine ⟨⟨I.ok.mod, ok.kind, I.ok.glob, I.ok.blt, Nat.le_refl _, fun y z c h1 h2 => I.ok.inj y z c (cl h1) (cl h2), fun y hy => ?_, fun y c hfn _ => (by cases hfn), I.ok.hd, I.ok.frames, .inl rfl, fun b hb => ⟨?_, fun y c e z => (hf b hb).2.2.2.2.1 y c (cl e) z⟩, I.bs,
    Nat.le_trans I.ok.bsz I.sz, fun b o e hb => ?_, fun b hb hbf => ?_, I.stack, I.stkFree⟩, rfl, I.bare, Un.kept kept, ⟨m, hn, fun i y v e1 e2 e3 => ?_⟩, fun y c e => ?_, I.fresh, fun y c e => I.freeC y c (cl e), fun p hp => absurd (show p ∈ ([] : List (Addr × Obj)) from hp) (by simp), I.hok.kept kept, ?_⟩
  · have hy : (relabel scope X.env).names.lookup y = some .cell ∨ (relabel scope X.env).names.lookup y = some .free := hy
    rw [relabel_lookup] at hy
    have hfr : scope.names.lookup y = some .free := by
      cases e : scope.names.lookup y with
      | none => rw [e] at hy; rcases hy with z | z <;> cases z
      | some k =>
        rw [e] at hy
        have hy : relG X.env y k = .cell ∨ relG X.env y k = .free := hy.elim (fun z => .inl (Option.some.inj z)) fun z => .inr (Option.some.inj z)
        by_cases hk : k = .free
        · rw [hk]
        · have e2 : relG X.env y k = k := by
            unfold relG
            have : (k == NameKind.free) = false := by simpa using hk
            rw [this]
            rfl
          rw [e2] at hy
          rcases hy with z | z
          · subst z
            exact absurd rfl (ok.nocell _ (PySem.mem_of_lookup e))
          · exact absurd z hk
    exact Option.isSome_iff_exists.mp (closL_has scope.names [] (.inr (PySem.mem_of_lookup hfr)))
  · obtain ⟨o, ho⟩ := hfo b hb
    exact Nat.ne_of_lt (Heap.lt_size ho)
  · rcases (hf b hb).2.2.2.1 with z | z
    · exact I.ok.noex b o e z
    · exact absurd (Nat.lt_of_lt_of_le (Heap.lt_size e) (Nat.le_trans I.ok.bsz z)) (Nat.lt_irrefl _)
  · rcases List.mem_cons.mp (I.stkSub b hbf) with z | z
    · exact (hf b hb).2.1 z
    · exact (hf b hb).2.2.1 z
  · cases i with
    | zero =>
      have e2 : (some none : Option (Option V)) = some (some v) := e2
      cases e2
    | succ j =>
      have e1 : fv[j]? = some y := e1
      have e2 : (pickS σ fs)[j]? = some (some v) := e2
      obtain ⟨i, g1, g2⟩ := pickS_get e2
      obtain ⟨i', g3, g4, g5⟩ := ok.fvs j y e1
      rw [g1] at g3
      cases g3
      have gk : X.env.scope.names.lookup y = some .cell := ok.free (y, .free) (PySem.mem_of_lookup g5) rfl
      obtain ⟨m0, _, hl0⟩ := I.loc
      obtain ⟨u, r, l⟩ := hl0 i y v g4 g2 (.inr (.inl gk))
      refine ⟨u, r, ?_⟩
      rcases l with ⟨k, _⟩ | ⟨_, c, e, o, ho, hd⟩
      · have k : X.env.scope.names.lookup y = some .local := k
        rw [gk] at k
        cases k
      · obtain ⟨c', hc'⟩ := Option.isSome_iff_exists.mp (closL_has (cells := X.env.cells) scope.names [] (.inr (PySem.mem_of_lookup g5)))
        have := cl hc'
        rw [e] at this
        cases this
        refine .inr ⟨.inl ?_, c, hc', o, kept _ _ ho, hd⟩
        show (relabel scope X.env).names.lookup y = some .cell
        rw [relabel_lookup, g5]
        show some (relG X.env y .free) = _
        have gk' : X.env.kindOf y = some .cell := gk
        unfold relG
        rw [hkk, gk']
        rfl
  · obtain ⟨v, o, ho, hd⟩ := I.cell y c (cl e)
    exact ⟨v, o, kept _ _ ho, hd⟩
  · show (none :: pickS σ fs).length = (x :: fv).length
    simp [pickS, ok.len]
theorem comp_leave {σ' : St} {C : Addr} {N' : List Str} (I : Inv X pins σ H s) (hf : ∀ b ∈ fp, FpOk X pins H b) (I' : Inv (compX X N' scope C s H fp) [] σ' H' s') : Inv X pins σ H' s' :=
  I.call' (ch := fp) I'.os I'.base I'.hok I'.bare fun b hb => ⟨(hf b hb).2.2.2.1, (hf b hb).2.1, (hf b hb).2.2.2.2.1, (hf b hb).2.2.2.2.2⟩
theorem Inv.off {C : Addr} {h' : Heap} (I : Inv X pins σ H s) (f : FpOk X pins H C) (hs : Heap.SameBut C s.heap h') : Inv X pins σ H { s with heap := h' } :=
  I.turned (t' := s.toks) (fun b o hb e => hs.extBut b o hb e) f.1 (fun z => f.2.1 z) f.2.2.2.1 f.2.2.2.2.1 f.2.2.2.2.2
end

def PTs (X : Cx) (ifs : List Expr) (t : TT) : Prop :=
  ∀ (pins : List (Addr × Obj)) (s : Shared) (σ : St) (H : Hp) (Q : Bool → Hp → Prop), Inv X pins σ H s → t σ H Q →
    wpAny (model X.prog X.w) X.A (forIn ifs true fun c r => if r = true then do let ok ← isTrue c X.env (eval c X.env); pure (ForInStep.yield ok) else pure (ForInStep.yield r)) (TP X pins σ Q) X.xe s
def tYes : TT := fun _ H Q => Q true H
theorem pts_nil {X : Cx} : PTs X [] tYes := fun _ _ _ H _ I h => wpAny_tests_nil ⟨H, I, h⟩
def CompRd (J : It) (tc : TT) (te : TE) (fs : List Nat) (σ : St) (H : Hp) (Q : VK) : Prop := ∀ D, H D = none → ∃ W : Nat → Nat → Hp → Prop, (∃ m, W 0 m (upd H D (.lst []))) ∧ ∀ i m H2, W i m H2 →
  (J.stop i H2 ∧ Q (.ref D) H2) ∨ (J.go i H2 ∧ ∀ v H3, J.yld i H2 v H3 → tc (some v :: pickS σ fs) H3 fun ok H4 =>
    if ok = true then te (some v :: pickS σ fs) H4 fun y H5 => ∃ ys, H5 D = some (.lst ys) ∧ ys.length < sizeLine ∧ ∃ m', m' < m ∧ W (i + 1) m' (upd H5 D (.lst (ys ++ [y]))) else ∃ m', m' < m ∧ W (i + 1) m' H4)
def tComp (wi : TI) (tc : TT) (te : TE) (fs : List Nat) : TE := fun σ H Q => wi σ H fun J H1 => CompRd J tc te fs σ H1 Q
section
variable {X : Cx} {elt iter : Expr} {x : Str} {px pos : Pos} {ifs : List Expr} {scope : Scope} {fv : List Str} {fs : List Nat} {wi : TI} {te : TE} {tc : TT}
theorem comp_run (hc : X.calm = true) (ok : CompOk X scope x fv fs) (hts : ∀ C s0 H0 fp, PTs (compX X (x :: fv) scope C s0 H0 fp) ifs tc) (he : ∀ C s0 H0 fp, PE (compX X (x :: fv) scope C s0 H0 fp) elt te)
    {pins : List (Addr × Obj)} {σ : St} {H : Hp} {s : Shared} {E : Value → Shared → Prop} {it : Addr} {fp : List Addr} {tn : Nat → Heap → Prop} {J : It} {Q : VK} (I : Inv X pins σ H s) (T : Turn X.prog X.w X.K (.Name x px) J fp it tn) (st : tn 0 s.heap)
    (hf : ∀ b ∈ fp, FpOk X pins H b)
    (rd : CompRd J tc te fs σ H Q)
    {RR : Value → Addr → Result → Shared → Prop}
    (hRR : ∀ D C s' H', Inv X pins σ H' s' → FpOk X pins H' C → (∃ m, s'.heap.Ns C m) → Q (.ref D) H' → RR (.ref D) C (.ok .next) s') :
    wpAny (model X.prog X.w) X.A (newList []) (fun acc s3 => wpAny (model X.prog X.w) X.A (newFunctionEnv scope X.env.globals (closL X.env.cells scope.names []) [] X.env.qual none .none (some X.env)) (fun cenv s4 =>
      codeAny (model X.prog X.w) X.A (.compStart (.ListComp elt [⟨.Name x px, iter, ifs, 0⟩] scope pos) 0 (.ref it) acc { cenv with scope := relabel scope X.env }) (RR acc cenv.locals) s4) E s3) E s := by
  obtain ⟨W, ⟨m0, w0⟩, turn⟩ := rd s.heap.objs.size I.fresh
  have I3 : Inv X pins σ (upd H s.heap.objs.size (.lst [])) { s with heap := s.heap.push { cls := .type "list", dict := none, data := .seq ([] : List Value).toArray } } := I.lnew (its := []) (ys := []) (t' := s.toks) .nil (Nat.zero_le _)
  refine wpAny_newObj_type ?_
  show wpAny _ _ _ _ _ ({ s with heap := s.heap.push { cls := .type "list", dict := none, data := .seq ([] : List Value).toArray } } : Shared)
  generalize hs3 : ({ s with heap := s.heap.push { cls := .type "list", dict := none, data := .seq ([] : List Value).toArray } } : Shared) = s3 at I3 ⊢
  refine wpAny_newFunctionEnv ok.nocell (fun y hy => absurd hy (by simp)) (fun h1 hns hsb => ?_) ok.kind
  have eh : s3.heap = s.heap.push { cls := .type "list", dict := none, data := .seq ([] : List Value).toArray } := by rw [← hs3]
  have up3 : ∀ b o, s.heap.get? b = some o → s3.heap.get? b = some o := fun b o e => by rw [eh]; exact Heap.get?_push_of_some _ e
  have hfo : ∀ b ∈ fp, ∃ o, s3.heap.get? b = some o := fun b hb => let ⟨o, ho, _⟩ := T.obj 0 _ st b hb; ⟨o, up3 b o ho⟩
  have neD : ∀ b ∈ fp, b ≠ s.heap.objs.size := fun b hb => let ⟨o, ho, _⟩ := T.obj 0 _ st b hb; Nat.ne_of_lt (Heap.lt_size ho)
  have hf3 : ∀ b ∈ fp, FpOk X pins (upd H s.heap.objs.size (.lst [])) b := fun b hb => ⟨by rw [upd_ne (neD b hb)]; exact (hf b hb).1, (hf b hb).2⟩
  have kept : ∀ b o, s3.heap.get? b = some o → h1.get? b = some o := fun b o e => hsb.extBut b o (Nat.ne_of_lt (Heap.lt_size e)) (Heap.get?_push_of_some _ e)
  have I4 := comp_enter (tk := s3.toks + ([] : List (Str × Value)).length) ok I3 hf3 hfo hns kept
  have st4 : tn 0 h1 := T.keep 0 _ _ st fun b hb o e => kept b o (up3 b o e)
  have stat : ∀ {H' : Hp}, (∀ b ∈ fp, H' b = none) → ∀ b ∈ fp, FpOk (compX X (x :: fv) scope s3.heap.objs.size s3 (upd H s.heap.objs.size (.lst [])) fp) [] H' b := fun hn b hb =>
    ⟨hn b hb, (I4.ok.exf b hb).1, I4.ok.exfs b hb, .inl hb, (I4.ok.exf b hb).2, fun p hp => absurd hp (by simp)⟩
  have hg : PG (compX X (x :: fv) scope s3.heap.objs.size s3 (upd H s.heap.objs.size (.lst [])) fp) (.Name x px) (gName 0) := pg_name ok.nd rfl (.inl (lookup_relabel_local ok.tg)) (.inr (lookup_relabel_local ok.tg))
  have loop : codeAny (model X.prog X.w) X.A (.compLoop (.ListComp elt [⟨.Name x px, iter, ifs, 0⟩] scope pos) 0 (.ref it) (.ref s.heap.objs.size) (compEnvC scope (closL X.env.cells scope.names []) s3.heap.objs.size X.env)) (RR (.ref s.heap.objs.size) s3.heap.objs.size)
      { s3 with heap := h1, toks := s3.toks + ([] : List (Str × Value)).length } := by
    refine comp_turns (fun n s' => ∃ i o H', Inv (compX X (x :: fv) scope s3.heap.objs.size s3 (upd H s.heap.objs.size (.lst [])) fp) [] (o :: pickS σ fs) H' s' ∧ tn i s'.heap ∧ (∀ b ∈ fp, H' b = none) ∧ W i n H') ?_ m0
      ⟨0, none, _, I4, st4, fun b hb => (hf3 b hb).1, w0⟩
    rintro n s5 ⟨i, o, H5, I5, st5, fr5, w5⟩
    rcases turn i n H5 w5 with ⟨stop, q⟩ | ⟨go, step⟩
    · refine thn (T.done (compX X (x :: fv) scope s3.heap.objs.size s3 (upd H s.heap.objs.size (.lst [])) fp) rfl rfl rfl hc i [] s5 _ H5 _ I5 (stat fr5) st5 stop) fun r s6 ⟨hr, I6⟩ => ?_
      subst hr
      obtain ⟨m, hm, _⟩ := I6.loc
      exact hRR _ _ s6 H5 (comp_leave I3 hf3 I6) (I3.fpOk (Nat.le_refl _) I6.free) ⟨m, hm⟩ q
    · refine thn (T.item (compX X (x :: fv) scope s3.heap.objs.size s3 (upd H s.heap.objs.size (.lst [])) fp) rfl rfl rfl hc i [] s5 _ H5 _ I5 (stat fr5) st5 go) fun r s6 ⟨u, hr, h6⟩ => ?_
      subst hr
      refine thn h6 fun _ s7 ⟨v, H7, I7, r7, y7, st7, fr7⟩ => ?_
      have I7' := I7.pinned (stat fr7) (T.obj _ _ st7)
      have back : ∀ {σ9 : St} {H9 : Hp} {s9 : Shared}, Inv (compX X (x :: fv) scope s3.heap.objs.size s3 (upd H s.heap.objs.size (.lst [])) fp) ([] ++ pinsAt fp s7.heap) σ9 H9 s9 → tn (i + 1) s9.heap ∧ ∀ b ∈ fp, H9 b = none := fun {σ9 H9 s9} I9 =>
        ⟨T.keep _ _ _ st7 fun b hb o e => (I9.pin (b, o) (mem_pinsAt hb e)).1, fun b hb => by
          obtain ⟨o, e, _⟩ := T.obj _ _ st7 b hb
          exact (I9.pin (b, o) (mem_pinsAt hb e)).2.1⟩
      refine thn (hg _ s7 _ H7 v u (fun σ2 H2 => σ2 = some v :: pickS σ fs ∧ H2 = H7) I7' r7 ⟨rfl, rfl⟩) fun _ s8 ⟨σ8, H8, I8, e8, e8'⟩ => ?_
      subst e8 e8'
      refine thn (hts _ _ _ _ _ s8 _ H8 _ I8 (step v H8 y7)) fun ok s9 ⟨H9, I9, q9⟩ => ?_
      cases ok with
      | false =>
        obtain ⟨m', hm', w9⟩ := q9
        obtain ⟨b1, b2⟩ := back I9
        exact ⟨m', hm', i + 1, some v, H9, I9.unpinned, b1, b2, w9⟩
      | true =>
        refine thn (he _ _ _ _ _ s9 _ H9 _ I9 q9) fun y s10 ⟨yv, H10, I10, r10, ys, hD, hz, m', hm', w10⟩ => ?_
        refine thn (mt_append _ s10 _ H10 (.ref s.heap.objs.size) [yv] (.ref s.heap.objs.size) [y] (fun _ H' => H' = upd H10 s.heap.objs.size (.lst (ys ++ [yv]))) I10 rfl (.cons r10 .nil) ⟨_, ys, yv, rfl, rfl, hD, hz, rfl⟩) fun _ s11 ⟨_, H11, I11, _, e11⟩ => ?_
        subst e11
        obtain ⟨b1, b2⟩ := back I11
        exact ⟨m', hm', i + 1, some v, _, I11.unpinned, b1, b2, w10⟩
  exact codeAny_compStart_list loop (T.self _ 0 _ _ _ st4 loop)
theorem pe_comp (hc : X.calm = true) (ok : CompOk X scope x fv fs) (hi : PI X (.Name x px) iter wi) (hts : ∀ C s0 H0 fp, PTs (compX X (x :: fv) scope C s0 H0 fp) ifs tc) (he : ∀ C s0 H0 fp, PE (compX X (x :: fv) scope C s0 H0 fp) elt te)
    (hs : ∀ x, foldedSetIterable iter X.env x = pure x := by intro _; rfl) : PE X (.ListComp elt [⟨.Name x px, iter, ifs, 0⟩] scope pos) (tComp wi tc te fs) := by
  intro pins s σ H Q I h
  rw [eval_ListComp]
  refine wpAny_comprehension_free (use := none) rfl hs (closureFor_closL (ok.cells I)) ok.kind ok.names (thn (hi pins s σ H _ I h) fun xv s1 h1 => thn h1 fun itv s2 h2 => ?_)
  obtain ⟨it, fp, tn, J, H2, rfl, I2, T, st2, f2, rd⟩ := h2
  exact comp_run hc ok hts he I2 T st2 f2 rd fun D C s' H' I' fC ⟨m, hm⟩ q => ⟨m, hm, fun h' hs' => ⟨.ref D, H', I'.off fC hs', rfl, q⟩⟩
end

theorem comp_pure {J : It} {tc : TT} {te : TE} {fs : List Nat} {σ : St} {H : Hp} {Q : VK} {n : Nat} (item g : Nat → V) (p : Nat → Bool) (hn : n ≤ sizeLine)
    (hgo : ∀ i D ys, i < n → H D = none → J.go i (upd H D (.lst ys)))
    (hy : ∀ i D ys v H', i < n → H D = none → J.yld i (upd H D (.lst ys)) v H' → v = item i ∧ H' = upd H D (.lst ys))
    (hst : ∀ D ys, H D = none → J.stop n (upd H D (.lst ys)))
    (hc : ∀ i D ys (R : Bool → Hp → Prop), i < n → H D = none → R (p i) (upd H D (.lst ys)) → tc (some (item i) :: pickS σ fs) (upd H D (.lst ys)) R)
    (he : ∀ i D ys (R : VK), i < n → H D = none → p i = true → R (g i) (upd H D (.lst ys)) → te (some (item i) :: pickS σ fs) (upd H D (.lst ys)) R)
    (hQ : ∀ D, H D = none → Q (.ref D) (upd H D (.lst (((List.range n).filter p).map g)))) :
    CompRd J tc te fs σ H Q := by
  intro D hD
  refine ⟨fun i m H2 => m = n - i ∧ i ≤ n ∧ H2 = upd H D (.lst (((List.range i).filter p).map g)), ⟨n, by simp⟩, ?_⟩
  rintro i m H2 ⟨rfl, hi, rfl⟩
  by_cases hlt : i < n
  · refine .inr ⟨hgo i D _ hlt hD, fun v H3 yl => ?_⟩
    obtain ⟨rfl, rfl⟩ := hy i D _ v H3 hlt hD yl
    refine hc i D _ _ hlt hD ?_
    have er : ∀ b, p i = b → ((List.range (i + 1)).filter p).map g = ((List.range i).filter p).map g ++ (if b = true then [g i] else []) := fun b hb => by
      rw [List.range_succ, List.filter_append, List.map_append]
      cases b with
      | true => simp [hb]
      | false => simp [hb]
    cases hb : p i with
    | false =>
      show ∃ m', m' < n - i ∧ _
      refine ⟨n - (i + 1), by omega, rfl, hlt, ?_⟩
      rw [er false hb]
      simp
    | true =>
      show te _ _ _
      refine he i D _ _ hlt hD hb ⟨_, upd_same, ?_, n - (i + 1), by omega, rfl, hlt, ?_⟩
      · rw [List.length_map]
        have := List.length_filter_le p (List.range i)
        rw [List.length_range] at this
        omega
      · rw [upd_upd, er true hb]
        simp
  · have e : i = n := by omega
    subst e
    exact .inl ⟨hst D _ hD, hQ D hD⟩
end L2

namespace L2
open PySem PySem.Spec PyProof.Rows
theorem Same.put {H H' : Hp} {D : Addr} {o : HO} (s : Same H H') (h : H D = none) : Same H (upd H' D o) := fun b u e => by
  rw [upd_ne (ne_of_none e h)]
  exact s b u e
theorem Same.new {H : Hp} {D : Addr} {o : HO} (h : H D = none) : Same H (upd H D o) := (Same.refl H).put h
theorem Same.tup {K : PySem.W.Frag} {H H' : Hp} {a : Addr} {xs : List V} (e : Same H H') (h : SqT K H a xs) : SqT K H' a xs := by
  rcases h with (h | ⟨o, h⟩) | h
  · exact .inl (.inl (e _ _ h))
  · exact .inl (.inr ⟨o, e _ _ h⟩)
  · exact .inr h
end L2

set_option Elab.async false
set_option linter.all false
set_option maxRecDepth 100000
set_option maxHeartbeats 4000000
namespace L2
open PySem PySem.Spec PyProof.Rows
open Builtin Builtin.Str
end L2

namespace L2
open PySem PySem.Spec PyProof.Rows
section
variable {X : Cx}
inductive rSlSI (x : V) (lo : Option Int) (hi : Option Int) (H : Hp) (Q : VK) : Prop
  | mk (z : _) (x0 : x = .str z) (x1 : z.length ≤ sizeLine) (x2 : Q (.str (Txt.slice z lo hi)) H) : rSlSI  x lo hi H Q
end

section
variable {X : Cx} {tg : Expr}
inductive r_call_allI (K : PySem.W.Frag) (xs : List V) (H : Hp) (Q : VK) : Prop
  | mk (p : Addr) (bs : List Bool) (h0_ : xs = [.ref p]) (h1_ : SqL K H p (bs.map V.bl)) (h2_ : Q (.bl (bs.all id)) H) : r_call_allI K xs H Q
inductive rJoinI (K : PySem.W.Frag) (x : V) (vs : List V) (H : Hp) (Q : VK) : Prop
  | mk (z : Str) (p : Addr) (ys : List Str) (x0 : x = .str z) (x1 : vs = [.ref p]) (x2 : SqL K H p (ys.map V.str)) (x3 : (ys.map (·.length)).sum + ys.length * z.length ≤ 16777216) (x4 : Q (.str (Txt.join z ys)) H) : rJoinI K x vs H Q
inductive r_op_mul_strI (x : V) (y : V) (H : Hp) (Q : VK) : Prop
  | mk (z : _) (n : _) (h0_ : x = .str z) (h1_ : y = .int n) (h2_ : MulOk z n) (h3_ : Q (.str (Txt.mul z n)) H) : r_op_mul_strI x y H Q
inductive r_op_isBI (x : V) (y : V) (H : Hp) (Q : VK) : Prop
  | mk (a : _) (b : _) (h0_ : x = .bl a) (h1_ : y = .bl b) (h2_ : Q (.bl (a == b)) H) : r_op_isBI x y H Q
inductive r_op_isNotBI (x : V) (y : V) (H : Hp) (Q : VK) : Prop
  | mk (a : _) (b : _) (h0_ : x = .bl a) (h1_ : y = .bl b) (h2_ : Q (.bl (!(a == b))) H) : r_op_isNotBI x y H Q
inductive r_call_isi1I (K : PySem.W.Frag) (xs : List V) (H : Hp) (Q : VK) : Prop
  | mk (x : _) (T : _) (t : _) (b : _) (h0_ : xs = [x, .ty T]) (h1_ : TyOf K H x t) (h2_ : PySem.W.kitOne K t (.type T) = some b) (h3_ : Q (.bl b) H) : r_call_isi1I K xs H Q
inductive rInsertI (x : V) (vs : List V) (H : Hp) (Q : VK) : Prop
  | mk (l : _) (xs : _) (i : _) (y : _) (x0 : x = .ref l) (x1 : vs = [.int ((i : Nat) : Int), y]) (x2 : H l = some (.lst xs)) (x3 : i ≤ xs.length) (x4 : xs.length < sizeLine) (x5 : Q .non (upd H l (.lst (xs.take i ++ y :: xs.drop i)))) : rInsertI  x vs H Q
end
end L2

set_option Elab.async false
set_option linter.all false
set_option maxRecDepth 100000
set_option maxHeartbeats 4000000
namespace L2
open PySem PySem.Spec PyProof.Rows
section
variable {X : Cx}
inductive rCatEI (x : V) (y : V) (H : Hp) (Q : VK) : Prop
  | mk (a : _) (b : _) (xs : _) (ys : _) (x0 : x = .ref a) (x1 : y = .ref b) (x2 : H a = some (.tup xs)) (x3 : H b = some (.tup ys)) (x4 : xs.length + ys.length ≤ sizeLine) (x5 : ∀ p H', Same H H' → H' p = some (.tup (xs ++ ys)) → Q (.ref p) H') : rCatEI  x y H Q
end
end L2
namespace HT
open PySem PyProof.Rows
section
variable {prog : Program} {w : World} {A : Around} {E : Value → Shared → Prop} {s : Shared}
end
end HT
namespace L2
open PySem PySem.Spec PyProof.Rows
section
variable {X : Cx}
inductive rSlEI (x : V) (lo : Option Int) (hi : Option Int) (H : Hp) (Q : VK) : Prop
  | mk (a : _) (xs : _) (x0 : x = .ref a) (x1 : H a = some (.tup xs)) (x2 : ∀ p H', Same H H' → H' p = some (.tup (cutV xs lo hi)) → Q (.ref p) H') : rSlEI  x lo hi H Q
end
end L2

set_option Elab.async false
set_option linter.all false
set_option maxRecDepth 100000
set_option maxHeartbeats 4000000
namespace L2
open PySem PySem.Spec PyProof.Rows
inductive TyN (H : Hp) : V → String → Prop where
  | non : TyN H .non "NoneType"
  | bl (b : Bool) : TyN H (.bl b) "bool"
  | int (i : Int) : TyN H (.int i) "int"
  | str (x : Str) : TyN H (.str x) "str"
  | lst {a : Addr} {xs : List V} (e : Rd H a (.lst xs)) : TyN H (.ref a) "list"
  | tup {a : Addr} {xs : List V} (e : H a = some (.tup xs)) : TyN H (.ref a) "tuple"
  | dK {a : Addr} {kvs : List (Key × V)} (e : Rd H a (.dK kvs)) : TyN H (.ref a) "dict"
theorem Rd.up {H H' : Hp} {a : Addr} {u : HO} (h : Rd H a u) (s : ∀ o, H a = some o → H' a = some o) : Rd H' a u := by
  rcases h with h | ⟨o, h⟩
  · exact .inl (s _ h)
  · exact .inr ⟨o, s _ h⟩
theorem TyN.same {H H' : Hp} {v : V} {T : String} (h : TyN H v T) (s : Same H H') : TyN H' v T := by
  cases h with
  | non => exact .non
  | bl b => exact .bl b
  | int i => exact .int i
  | str x => exact .str x
  | lst e => exact .lst (e.up fun o => s _ o)
  | tup e => exact .tup (s _ _ e)
  | dK e => exact .dK (e.up fun o => s _ o)
def isiB (T c : String) : Bool := T == c || (T == "bool" && c == "int")
def isiC (c : String) : Bool := ["int", "bool", "str", "list", "tuple", "dict"].contains c
section
variable {X : Cx}
inductive rIsiI (xs : List V) (H : Hp) (Q : VK) : Prop
  | mk (x : _) (c : _) (T : _) (x0 : xs = [x, .ty c]) (x1 : isiC c = true) (x2 : TyN H x T) (x3 : Q (.bl (isiB T c)) H) : rIsiI  xs H Q
end
end L2

set_option Elab.async false
set_option linter.all false
namespace L2
open PySem PySem.Spec PyProof.Rows
end L2

set_option Elab.async false
set_option linter.all false
set_option maxRecDepth 100000
set_option maxHeartbeats 4000000
namespace L2
open PySem PySem.Spec PyProof.Rows
open Builtin Builtin.Str
abbrev sgn (x : Str) : List Nat := x.cps.toList
def LET : List Nat := sgn "abcdefghijklmnopqrstuvwxyz"
def isL (c : Nat) : Bool := decide (c ∈ LET)
def nameS (l : List Nat) : Bool := decide (1 ≤ l.length) && decide (l.length ≤ 8) && l.all isL
def nameB (x : Str) : Bool := nameS (sgn x)
end L2

set_option Elab.async false
set_option linter.all false
set_option maxRecDepth 100000
set_option maxHeartbeats 4000000
namespace L2
open PySem PySem.Spec PyProof.Rows
inductive Dc where
  | leaf (v : V)
  | row (a : Addr) (xs : List Dc)
  | tab (a : Addr) (ks : List Str) (xs : List Dc)
namespace Dc
def val : Dc → V
  | leaf v => v
  | row a _ => .ref a
  | tab a _ _ => .ref a
mutual
def addrs : Dc → List Addr
  | leaf _ => []
  | row a xs => a :: addrsL xs
  | tab a _ xs => a :: addrsL xs
def addrsL : List Dc → List Addr
  | [] => []
  | x :: r => addrs x ++ addrsL r
end
mutual
def size : Dc → Nat
  | leaf _ => 1
  | row _ xs => 1 + sizeL xs
  | tab _ _ xs => 1 + sizeL xs
def sizeL : List Dc → Nat
  | [] => 0
  | x :: r => size x + sizeL r
end
def Lf (v : V) : Prop := (∃ i, v = .int i) ∨ ∃ x : Str, v = .str x ∧ x.length ≤ 100
def kvs (ks : List Str) (xs : List Dc) : List (Key × V) := (ks.zip (xs.map val)).map fun p => (Sum.inr p.1, p.2)
mutual
def At (H : Hp) : Dc → Prop
  | leaf v => Lf v
  | row a xs => Rd H a (.lst (xs.map val)) ∧ AtL H xs
  | tab a ks xs => Rd H a (.dK (kvs ks xs)) ∧ ks.length = xs.length ∧ ks.Nodup ∧ AtL H xs
def AtL (H : Hp) : List Dc → Prop
  | [] => True
  | x :: r => At H x ∧ AtL H r
end
mutual
def put (b : Addr) (i : Nat) (k : Str) (p : Dc) : Dc → Dc
  | leaf v => leaf v
  | row a xs => if a = b then row a (xs.take i ++ p :: xs.drop i) else row a (putL b i k p xs)
  | tab a ks xs => if a = b then tab a (ks ++ [k]) (xs ++ [p]) else tab a ks (putL b i k p xs)
def putL (b : Addr) (i : Nat) (k : Str) (p : Dc) : List Dc → List Dc
  | [] => []
  | x :: r => put b i k p x :: putL b i k p r
end
theorem size_pos (d : Dc) : 1 ≤ d.size := by
  cases d <;> simp only [size] <;> omega
theorem putL_length (b : Addr) (i : Nat) (k : Str) (p : Dc) : ∀ xs, (putL b i k p xs).length = xs.length
  | [] => rfl
  | x :: r => by simp only [putL, List.length_cons, putL_length b i k p r]
theorem put_val (b : Addr) (i : Nat) (k : Str) (p d : Dc) : (put b i k p d).val = d.val := by
  cases d with
  | leaf v => rfl
  | row a xs => simp only [put]; split <;> rfl
  | tab a ks xs => simp only [put]; split <;> rfl
theorem putL_val (b : Addr) (i : Nat) (k : Str) (p : Dc) : ∀ xs, (putL b i k p xs).map val = xs.map val
  | [] => rfl
  | x :: r => by simp only [putL, List.map_cons, put_val, putL_val b i k p r]
theorem addrsL_append : ∀ xs ys : List Dc, addrsL (xs ++ ys) = addrsL xs ++ addrsL ys
  | [], _ => rfl
  | x :: r, ys => by simp only [List.cons_append, addrsL, addrsL_append r ys, List.append_assoc]
theorem sizeL_append : ∀ xs ys : List Dc, sizeL (xs ++ ys) = sizeL xs + sizeL ys
  | [], ys => by simp [sizeL]
  | x :: r, ys => by simp only [List.cons_append, sizeL, sizeL_append r ys]; omega
theorem AtL_append {H : Hp} : ∀ xs ys : List Dc, AtL H (xs ++ ys) ↔ AtL H xs ∧ AtL H ys
  | [], ys => by simp [AtL]
  | x :: r, ys => by simp only [List.cons_append, AtL, AtL_append r ys, and_assoc]
theorem AtL_mem {H : Hp} : ∀ {xs : List Dc}, AtL H xs → ∀ x ∈ xs, At H x
  | [], _, x, hx => nomatch hx
  | y :: r, h, x, hx => by
    simp only [AtL] at h
    rcases List.mem_cons.mp hx with rfl | hx
    · exact h.1
    · exact AtL_mem h.2 x hx
theorem sizeL_mem : ∀ {xs : List Dc} {x : Dc}, x ∈ xs → x.size ≤ sizeL xs
  | [], _, h => nomatch h
  | y :: r, x, h => by
    simp only [sizeL]
    rcases List.mem_cons.mp h with rfl | h
    · omega
    · have := sizeL_mem h
      omega
theorem addrsL_mem : ∀ {xs : List Dc} {x : Dc} {a : Addr}, x ∈ xs → a ∈ x.addrs → a ∈ addrsL xs
  | [], _, _, h, _ => nomatch h
  | y :: r, x, a, h, ha => by
    simp only [addrsL]
    rcases List.mem_cons.mp h with rfl | h
    · exact List.mem_append_left _ ha
    · exact List.mem_append_right _ (addrsL_mem h ha)
mutual
theorem at_frame {H H' : Hp} : ∀ d : Dc, (∀ a ∈ d.addrs, ∀ o, H a = some o → H' a = some o) → d.At H → d.At H'
  | leaf v, _, h => h
  | row a xs, f, h => by
    simp only [At] at h ⊢
    exact ⟨h.1.up (f a (by simp [addrs])), atL_frame xs (fun c hc => f c (by simp only [addrs]; exact List.mem_cons_of_mem _ hc)) h.2⟩
  | tab a ks xs, f, h => by
    simp only [At] at h ⊢
    exact ⟨h.1.up (f a (by simp [addrs])), h.2.1, h.2.2.1, atL_frame xs (fun c hc => f c (by simp only [addrs]; exact List.mem_cons_of_mem _ hc)) h.2.2.2⟩
theorem atL_frame {H H' : Hp} : ∀ xs : List Dc, (∀ a ∈ addrsL xs, ∀ o, H a = some o → H' a = some o) → AtL H xs → AtL H' xs
  | [], _, h => h
  | x :: r, f, h => by
    simp only [AtL] at h ⊢
    exact ⟨at_frame x (fun c hc => f c (by simp only [addrsL]; exact List.mem_append_left _ hc)) h.1, atL_frame r (fun c hc => f c (by simp only [addrsL]; exact List.mem_append_right _ hc)) h.2⟩
end
mutual
theorem at_read {H H' : Hp} : ∀ d : Dc, (∀ a ∈ d.addrs, ∀ u, Rd H a u → Rd H' a u) → d.At H → d.At H'
  | leaf v, _, h => h
  | row a xs, f, h => by
    simp only [At] at h ⊢
    exact ⟨f a (by simp [addrs]) _ h.1, atL_read xs (fun c hc => f c (by simp only [addrs]; exact List.mem_cons_of_mem _ hc)) h.2⟩
  | tab a ks xs, f, h => by
    simp only [At] at h ⊢
    exact ⟨f a (by simp [addrs]) _ h.1, h.2.1, h.2.2.1, atL_read xs (fun c hc => f c (by simp only [addrs]; exact List.mem_cons_of_mem _ hc)) h.2.2.2⟩
theorem atL_read {H H' : Hp} : ∀ xs : List Dc, (∀ a ∈ addrsL xs, ∀ u, Rd H a u → Rd H' a u) → AtL H xs → AtL H' xs
  | [], _, h => h
  | x :: r, f, h => by
    simp only [AtL] at h ⊢
    exact ⟨at_read x (fun c hc => f c (by simp only [addrsL]; exact List.mem_append_left _ hc)) h.1, atL_read r (fun c hc => f c (by simp only [addrsL]; exact List.mem_append_right _ hc)) h.2⟩
end
theorem at_same {H H' : Hp} {d : Dc} (s : Same H H') (h : d.At H) : d.At H' := at_frame d (fun a _ o e => s a o e) h
mutual
theorem put_not {b : Addr} {i : Nat} {k : Str} {p : Dc} : ∀ d : Dc, b ∉ d.addrs → put b i k p d = d
  | leaf v, _ => rfl
  | row a xs, h => by
    simp only [addrs, List.mem_cons, not_or] at h
    simp only [put]
    rw [if_neg (fun e => h.1 e.symm), putL_not xs h.2]
  | tab a ks xs, h => by
    simp only [addrs, List.mem_cons, not_or] at h
    simp only [put]
    rw [if_neg (fun e => h.1 e.symm), putL_not xs h.2]
theorem putL_not {b : Addr} {i : Nat} {k : Str} {p : Dc} : ∀ xs : List Dc, b ∉ addrsL xs → putL b i k p xs = xs
  | [], _ => rfl
  | x :: r, h => by
    simp only [addrsL, List.mem_append, not_or] at h
    simp only [putL]
    rw [put_not x h.1, putL_not r h.2]
end
theorem take_drop_size (xs : List Dc) (i : Nat) : sizeL (xs.take i) + sizeL (xs.drop i) = sizeL xs := by
  rw [← sizeL_append, List.take_append_drop]
mutual
theorem put_size {b : Addr} {i : Nat} {k : Str} {p : Dc} : ∀ d : Dc, b ∈ d.addrs → d.addrs.Nodup → (put b i k p d).size = d.size + p.size
  | leaf v, h, _ => by simp [addrs] at h
  | row a xs, h, n => by
    simp only [addrs, List.mem_cons] at h
    simp only [addrs, List.nodup_cons] at n
    simp only [put]
    by_cases e : a = b
    · rw [if_pos e]
      simp only [size, sizeL_append, sizeL]
      have := take_drop_size xs i
      omega
    · rw [if_neg e]
      simp only [size]
      rw [putL_size xs (h.resolve_left fun z => e z.symm) n.2]
      omega
  | tab a ks xs, h, n => by
    simp only [addrs, List.mem_cons] at h
    simp only [addrs, List.nodup_cons] at n
    simp only [put]
    by_cases e : a = b
    · rw [if_pos e]
      simp only [size, sizeL_append, sizeL]
      omega
    · rw [if_neg e]
      simp only [size]
      rw [putL_size xs (h.resolve_left fun z => e z.symm) n.2]
      omega
theorem putL_size {b : Addr} {i : Nat} {k : Str} {p : Dc} : ∀ xs : List Dc, b ∈ addrsL xs → (addrsL xs).Nodup → sizeL (putL b i k p xs) = sizeL xs + p.size
  | [], h, _ => by simp [addrsL] at h
  | x :: r, h, n => by
    simp only [addrsL] at h n
    obtain ⟨n1, n2, n3⟩ := List.nodup_append.mp n
    simp only [putL, sizeL]
    by_cases hx : b ∈ x.addrs
    · have hr : b ∉ addrsL r := fun z => n3 b hx b z rfl
      rw [put_size x hx n1, putL_not r hr]
      omega
    · rw [put_not x hx, putL_size r ((List.mem_append.mp h).resolve_left hx) n2]
      omega
end
mutual
theorem put_addrs {b : Addr} {i : Nat} {k : Str} {p : Dc} : ∀ (d : Dc) (c : Addr), (c ∈ (put b i k p d).addrs → c ∈ d.addrs ∨ (b ∈ d.addrs ∧ c ∈ p.addrs)) ∧ (c ∈ d.addrs → c ∈ (put b i k p d).addrs) ∧ (b ∈ d.addrs → c ∈ p.addrs → c ∈ (put b i k p d).addrs)
  | leaf v, c => by simp [put, addrs]
  | row a xs, c => by
    have ih := putL_addrs (b := b) (i := i) (k := k) (p := p) xs c
    simp only [put]
    by_cases e : a = b
    · rw [if_pos e]
      have et : addrsL xs = addrsL (xs.take i) ++ addrsL (xs.drop i) := by rw [← addrsL_append, List.take_append_drop]
      simp only [addrs, addrsL_append, addrsL, List.mem_cons, List.mem_append]
      rw [et]
      simp only [List.mem_append]
      subst e
      refine ⟨?_, ?_, ?_⟩
      · rintro (h | h | h | h)
        · exact .inl (.inl h)
        · exact .inl (.inr (.inl h))
        · exact .inr ⟨.inl rfl, h⟩
        · exact .inl (.inr (.inr h))
      · rintro (h | h | h)
        · exact .inl h
        · exact .inr (.inl h)
        · exact .inr (.inr (.inr h))
      · intro _ h
        exact .inr (.inr (.inl h))
    · rw [if_neg e]
      simp only [addrs, List.mem_cons]
      refine ⟨?_, ?_, ?_⟩
      · rintro (h | h)
        · exact .inl (.inl h)
        · exact (ih.1 h).imp .inr fun z => ⟨.inr z.1, z.2⟩
      · rintro (h | h)
        · exact .inl h
        · exact .inr (ih.2.1 h)
      · rintro (h | h) hp
        · exact absurd h.symm e
        · exact .inr (ih.2.2 h hp)
  | tab a ks xs, c => by
    have ih := putL_addrs (b := b) (i := i) (k := k) (p := p) xs c
    simp only [put]
    by_cases e : a = b
    · rw [if_pos e]
      simp only [addrs, addrsL_append, addrsL, List.mem_cons, List.mem_append, List.append_nil]
      subst e
      refine ⟨?_, ?_, ?_⟩
      · rintro (h | h | h)
        · exact .inl (.inl h)
        · exact .inl (.inr h)
        · exact .inr ⟨.inl rfl, h⟩
      · rintro (h | h)
        · exact .inl h
        · exact .inr (.inl h)
      · intro _ h
        exact .inr (.inr h)
    · rw [if_neg e]
      simp only [addrs, List.mem_cons]
      refine ⟨?_, ?_, ?_⟩
      · rintro (h | h)
        · exact .inl (.inl h)
        · exact (ih.1 h).imp .inr fun z => ⟨.inr z.1, z.2⟩
      · rintro (h | h)
        · exact .inl h
        · exact .inr (ih.2.1 h)
      · rintro (h | h) hp
        · exact absurd h.symm e
        · exact .inr (ih.2.2 h hp)
theorem putL_addrs {b : Addr} {i : Nat} {k : Str} {p : Dc} : ∀ (xs : List Dc) (c : Addr), (c ∈ addrsL (putL b i k p xs) → c ∈ addrsL xs ∨ (b ∈ addrsL xs ∧ c ∈ p.addrs)) ∧ (c ∈ addrsL xs → c ∈ addrsL (putL b i k p xs)) ∧ (b ∈ addrsL xs → c ∈ p.addrs → c ∈ addrsL (putL b i k p xs))
  | [], c => by simp [putL, addrsL]
  | x :: r, c => by
    have h1 := put_addrs (b := b) (i := i) (k := k) (p := p) x c
    have h2 := putL_addrs (b := b) (i := i) (k := k) (p := p) r c
    simp only [putL, addrsL, List.mem_append]
    refine ⟨?_, ?_, ?_⟩
    · rintro (h | h)
      · exact (h1.1 h).imp .inl fun z => ⟨.inl z.1, z.2⟩
      · exact (h2.1 h).imp .inr fun z => ⟨.inr z.1, z.2⟩
    · rintro (h | h)
      · exact .inl (h1.2.1 h)
      · exact .inr (h2.2.1 h)
    · rintro (h | h) hp
      · exact .inl (h1.2.2 h hp)
      · exact .inr (h2.2.2 h hp)
end
mutual
theorem put_nodup {b : Addr} {i : Nat} {k : Str} {p : Dc} (np : p.addrs.Nodup) : ∀ d : Dc, d.addrs.Nodup → (∀ c ∈ d.addrs, c ∉ p.addrs) → (put b i k p d).addrs.Nodup
  | leaf v, n, _ => n
  | row a xs, n, dj => by
    simp only [addrs, List.nodup_cons] at n
    simp only [put]
    by_cases e : a = b
    · rw [if_pos e]
      simp only [addrs, addrsL_append, addrsL]
      have et : addrsL xs = addrsL (xs.take i) ++ addrsL (xs.drop i) := by rw [← addrsL_append, List.take_append_drop]
      rw [et] at n
      have dj' : ∀ c, c ∈ addrsL (xs.take i) ++ addrsL (xs.drop i) → c ∉ p.addrs := fun c hc => dj c (by simp only [addrs]; rw [et]; exact List.mem_cons_of_mem _ hc)
      obtain ⟨m1, m2, m3⟩ := List.nodup_append.mp n.2
      refine List.nodup_cons.mpr ⟨fun h => ?_, List.nodup_append.mpr ⟨m1, List.nodup_append.mpr ⟨np, m2, fun c hc e' he hce => ?_⟩, fun c hc e' he hce => ?_⟩⟩
      · simp only [List.mem_append] at h
        rcases h with h | h | h
        · exact n.1 (List.mem_append_left _ h)
        · exact dj a (by simp [addrs]) h
        · exact n.1 (List.mem_append_right _ h)
      · subst hce
        exact dj' c (List.mem_append_right _ he) hc
      · subst hce
        rcases List.mem_append.mp he with he | he
        · exact dj' c (List.mem_append_left _ hc) he
        · exact m3 c hc c he rfl
    · rw [if_neg e]
      simp only [addrs]
      refine List.nodup_cons.mpr ⟨fun h => ?_, putL_nodup np xs n.2 fun c hc => dj c (by simp only [addrs]; exact List.mem_cons_of_mem _ hc)⟩
      rcases (putL_addrs xs a).1 h with h | h
      · exact n.1 h
      · exact dj a (by simp [addrs]) h.2
  | tab a ks xs, n, dj => by
    simp only [addrs, List.nodup_cons] at n
    simp only [put]
    by_cases e : a = b
    · rw [if_pos e]
      simp only [addrs, addrsL_append, addrsL, List.append_nil]
      refine List.nodup_cons.mpr ⟨fun h => ?_, List.nodup_append.mpr ⟨n.2, np, fun c hc e' he hce => ?_⟩⟩
      · rcases List.mem_append.mp h with h | h
        · exact n.1 h
        · exact dj a (by simp [addrs]) h
      · subst hce
        exact dj c (by simp only [addrs]; exact List.mem_cons_of_mem _ hc) he
    · rw [if_neg e]
      simp only [addrs]
      refine List.nodup_cons.mpr ⟨fun h => ?_, putL_nodup np xs n.2 fun c hc => dj c (by simp only [addrs]; exact List.mem_cons_of_mem _ hc)⟩
      rcases (putL_addrs xs a).1 h with h | h
      · exact n.1 h
      · exact dj a (by simp [addrs]) h.2
theorem putL_nodup {b : Addr} {i : Nat} {k : Str} {p : Dc} (np : p.addrs.Nodup) : ∀ xs : List Dc, (addrsL xs).Nodup → (∀ c ∈ addrsL xs, c ∉ p.addrs) → (addrsL (putL b i k p xs)).Nodup
  | [], n, _ => n
  | x :: r, n, dj => by
    simp only [addrsL] at n dj
    obtain ⟨n1, n2, n3⟩ := List.nodup_append.mp n
    simp only [putL, addrsL]
    have i1 := put_nodup (b := b) (i := i) (k := k) np x n1 fun c hc => dj c (List.mem_append_left _ hc)
    have i2 := putL_nodup (b := b) (i := i) (k := k) np r n2 fun c hc => dj c (List.mem_append_right _ hc)
    refine List.nodup_append.mpr ⟨i1, i2, fun c hc e he hce => ?_⟩
    subst hce
    rcases (put_addrs x c).1 hc with h | ⟨hb, h⟩
    · rcases (putL_addrs r c).1 he with h' | ⟨_, h'⟩
      · exact n3 c h c h' rfl
      · exact dj c (List.mem_append_left _ h) h'
    · rcases (putL_addrs r c).1 he with h' | ⟨hb', h'⟩
      · exact dj c (List.mem_append_right _ h') h
      · exact n3 b hb b hb' rfl
end
theorem kvs_snoc {ks : List Str} {xs : List Dc} (k : Str) (p : Dc) (h : ks.length = xs.length) : kvs (ks ++ [k]) (xs ++ [p]) = kvs ks xs ++ [(Sum.inr k, p.val)] := by
  unfold kvs
  rw [List.map_append, List.zip_append (by rw [List.length_map]; exact h), List.map_append]
  rfl
theorem kvs_keys {ks : List Str} {xs : List Dc} (h : ks.length = xs.length) : (kvs ks xs).map (·.1) = ks.map Sum.inr := by
  unfold kvs
  rw [List.map_map]
  have : (fun p : Str × V => (Sum.inr p.1 : Key)) = (Sum.inr : Str → Key) ∘ Prod.fst := rfl
  show List.map ((fun p : Key × V => p.1) ∘ fun p : Str × V => (Sum.inr p.1, p.2)) (ks.zip (xs.map val)) = _
  have e : ((fun p : Key × V => p.1) ∘ fun p : Str × V => ((Sum.inr p.1 : Key), p.2)) = (Sum.inr : Str → Key) ∘ Prod.fst := rfl
  rw [e, ← List.map_map, List.map_fst_zip (by rw [List.length_map]; omega)]
mutual
theorem put_at {H H' : Hp} {b : Addr} {i : Nat} {k : Str} {p : Dc} (hp : p.At H') (hrow : ∀ vs, Rd H b (.lst vs) → H' b = some (.lst (vs.take i ++ p.val :: vs.drop i)))
    (htab : ∀ kv, Rd H b (.dK kv) → (Sum.inr k : Key) ∉ kv.map (·.1) ∧ H' b = some (.dK (kv ++ [(Sum.inr k, p.val)]))) :
    ∀ d : Dc, (∀ a ∈ d.addrs, a ≠ b → ∀ o, H a = some o → H' a = some o) → d.addrs.Nodup → d.At H → (put b i k p d).At H'
  | leaf v, _, _, h => h
  | row a xs, f, n, h => by
    simp only [addrs, List.nodup_cons] at n
    simp only [At] at h
    simp only [put]
    by_cases e : a = b
    · rw [if_pos e]
      subst e
      have keep : AtL H' xs := atL_frame xs (fun c hc => f c (by simp only [addrs]; exact List.mem_cons_of_mem _ hc) fun z => n.1 (z ▸ hc)) h.2
      simp only [At]
      have ks : AtL H' (xs.take i) ∧ AtL H' (xs.drop i) := (AtL_append _ _).mp (by rw [List.take_append_drop]; exact keep)
      refine ⟨?_, (AtL_append _ _).mpr ⟨ks.1, by simp only [AtL]; exact ⟨hp, ks.2⟩⟩⟩
      refine .inl ?_
      rw [hrow _ h.1, List.map_append, List.map_cons, List.map_take, List.map_drop]
    · rw [if_neg e]
      simp only [At]
      refine ⟨?_, putL_at hp hrow htab xs (fun c hc => f c (by simp only [addrs]; exact List.mem_cons_of_mem _ hc)) n.2 h.2⟩
      rw [putL_val]
      exact h.1.up (f a (by simp [addrs]) e)
  | tab a ks xs, f, n, h => by
    simp only [addrs, List.nodup_cons] at n
    simp only [At] at h
    simp only [put]
    by_cases e : a = b
    · rw [if_pos e]
      subst e
      have keep : AtL H' xs := atL_frame xs (fun c hc => f c (by simp only [addrs]; exact List.mem_cons_of_mem _ hc) fun z => n.1 (z ▸ hc)) h.2.2.2
      simp only [At]
      obtain ⟨nk, d⟩ := htab _ h.1
      rw [kvs_keys h.2.1] at nk
      refine ⟨by rw [kvs_snoc k p h.2.1]; exact .inl d, by rw [List.length_append, List.length_append, h.2.1]; rfl, ?_, (AtL_append _ _).mpr ⟨keep, by simp only [AtL]; exact ⟨hp, trivial⟩⟩⟩
      refine List.nodup_append.mpr ⟨h.2.2.1, by simp, fun c hc e he hce => ?_⟩
      rw [List.mem_singleton.mp he] at hce
      subst hce
      exact nk (List.mem_map.mpr ⟨c, hc, rfl⟩)
    · rw [if_neg e]
      simp only [At]
      refine ⟨?_, by rw [putL_length]; exact h.2.1, h.2.2.1, putL_at hp hrow htab xs (fun c hc => f c (by simp only [addrs]; exact List.mem_cons_of_mem _ hc)) n.2 h.2.2.2⟩
      have ev : kvs ks (putL b i k p xs) = kvs ks xs := by unfold kvs; rw [putL_val]
      rw [ev]
      exact h.1.up (f a (by simp [addrs]) e)
theorem putL_at {H H' : Hp} {b : Addr} {i : Nat} {k : Str} {p : Dc} (hp : p.At H') (hrow : ∀ vs, Rd H b (.lst vs) → H' b = some (.lst (vs.take i ++ p.val :: vs.drop i)))
    (htab : ∀ kv, Rd H b (.dK kv) → (Sum.inr k : Key) ∉ kv.map (·.1) ∧ H' b = some (.dK (kv ++ [(Sum.inr k, p.val)]))) :
    ∀ xs : List Dc, (∀ a ∈ addrsL xs, a ≠ b → ∀ o, H a = some o → H' a = some o) → (addrsL xs).Nodup → AtL H xs → AtL H' (putL b i k p xs)
  | [], _, _, h => h
  | x :: r, f, n, h => by
    simp only [addrsL] at n f
    obtain ⟨n1, n2, n3⟩ := List.nodup_append.mp n
    simp only [putL, AtL] at h ⊢
    exact ⟨put_at hp hrow htab x (fun c hc => f c (List.mem_append_left _ hc)) n1 h.1, putL_at hp hrow htab r (fun c hc => f c (List.mem_append_right _ hc)) n2 h.2⟩
end
mutual
theorem holder_at {H : Hp} {b : Addr} : ∀ d : Dc, d.At H → b ∈ d.addrs → (∃ vs, Rd H b (.lst vs) ∧ vs.length < d.size) ∨ ∃ ks : List Str, ∃ kv, Rd H b (.dK kv) ∧ kv.map (·.1) = ks.map Sum.inr ∧ kv.length < d.size
  | leaf v, _, h => by simp [addrs] at h
  | row a xs, h, hb => by
    simp only [At] at h
    simp only [addrs, List.mem_cons] at hb
    simp only [size]
    rcases hb with rfl | hb
    · refine .inl ⟨_, h.1, ?_⟩
      rw [List.length_map]
      have := lenL xs
      omega
    · rcases holderL_at xs h.2 hb with ⟨vs, e, l⟩ | ⟨ks, kv, e, z, l⟩
      · exact .inl ⟨vs, e, by omega⟩
      · exact .inr ⟨ks, kv, e, z, by omega⟩
  | tab a ks xs, h, hb => by
    simp only [At] at h
    simp only [addrs, List.mem_cons] at hb
    simp only [size]
    rcases hb with rfl | hb
    · refine .inr ⟨ks, _, h.1, kvs_keys h.2.1, ?_⟩
      have e : (kvs ks xs).length = ks.length := by
        have := congrArg List.length (kvs_keys (ks := ks) (xs := xs) h.2.1)
        simpa using this
      rw [e, h.2.1]
      have := lenL xs
      omega
    · rcases holderL_at xs h.2.2.2 hb with ⟨vs, e, l⟩ | ⟨ks, kv, e, z, l⟩
      · exact .inl ⟨vs, e, by omega⟩
      · exact .inr ⟨ks, kv, e, z, by omega⟩
theorem holderL_at {H : Hp} {b : Addr} : ∀ xs : List Dc, AtL H xs → b ∈ addrsL xs → (∃ vs, Rd H b (.lst vs) ∧ vs.length < sizeL xs) ∨ ∃ ks : List Str, ∃ kv, Rd H b (.dK kv) ∧ kv.map (·.1) = ks.map Sum.inr ∧ kv.length < sizeL xs
  | [], _, h => by simp [addrsL] at h
  | x :: r, h, hb => by
    simp only [AtL] at h
    simp only [addrsL, List.mem_append] at hb
    simp only [sizeL]
    rcases hb with hb | hb
    · rcases holder_at x h.1 hb with ⟨vs, e, l⟩ | ⟨ks, kv, e, z, l⟩
      · exact .inl ⟨vs, e, by omega⟩
      · exact .inr ⟨ks, kv, e, z, by omega⟩
    · rcases holderL_at r h.2 hb with ⟨vs, e, l⟩ | ⟨ks, kv, e, z, l⟩
      · exact .inl ⟨vs, e, by omega⟩
      · exact .inr ⟨ks, kv, e, z, by omega⟩
theorem lenL : ∀ xs : List Dc, xs.length ≤ sizeL xs
  | [] => Nat.le_refl _
  | x :: r => by
    have := lenL r
    have := size_pos x
    simp only [sizeL, List.length_cons]
    omega
end
end Dc
end L2

set_option Elab.async false
set_option linter.all false
set_option maxRecDepth 100000
set_option maxHeartbeats 4000000
namespace L2
open PySem PySem.Spec PyProof.Rows
section
variable {X : Cx}
inductive r_op_eqEI (K : PySem.W.Frag) (x : V) (y : V) (H : Hp) (Q : VK) : Prop
  | mk (a : Addr) (b : Addr) (xs : List V) (h0_ : x = .ref a) (h1_ : y = .ref b) (h2_ : SqL K H a xs) (h3_ : SqL K H b []) (h4_ : Q (.bl xs.isEmpty) H) : r_op_eqEI K x y H Q
inductive r_op_neEI (K : PySem.W.Frag) (x : V) (y : V) (H : Hp) (Q : VK) : Prop
  | mk (a : Addr) (b : Addr) (xs : List V) (h0_ : x = .ref a) (h1_ : y = .ref b) (h2_ : SqL K H a xs) (h3_ : SqL K H b []) (h4_ : Q (.bl (!xs.isEmpty)) H) : r_op_neEI K x y H Q
def eqTs (xs ys : List V) : Bool := ((List.range (min xs.length ys.length)).all fun j => eqV (xs.getD j .non) (ys.getD j .non)) && xs.length == ys.length
inductive r_op_eqTI (K : PySem.W.Frag) (x : V) (y : V) (H : Hp) (Q : VK) : Prop
  | mk (a : Addr) (b : Addr) (xs : List V) (ys : List V) (h0_ : x = .ref a) (h1_ : y = .ref b) (h2_ : SqT K H a xs) (h3_ : SqT K H b ys) (h4_ : (∀ z ∈ xs, flatV z = true)) (h5_ : (∀ z ∈ ys, flatV z = true)) (h6_ : Q (.bl (eqTs xs ys)) H) : r_op_eqTI K x y H Q
def isiLD (T : String) : Bool := T == "list" || T == "dict"
inductive r_call_isiLDI (xs : List V) (H : Hp) (Q : VK) : Prop
  | mk (x : V) (p : Addr) (T : String) (h0_ : xs = [x, .ref p]) (h1_ : H p = some (.tup [.ty "list", .ty "dict"])) (h2_ : TyN H x T) (h3_ : Q (.bl (isiLD T)) H) : r_call_isiLDI xs H Q
inductive r_call_sortedDI (xs : List V) (H : Hp) (Q : VK) : Prop
  | mk (d : Addr) (kv : List (Key × V)) (ss : List Str) (h0_ : xs = [.ref d]) (h1_ : Rd H d (.dK kv)) (h2_ : kv.map (·.1) = ss.map Sum.inr) (h3_ : kv.length < 64) (h4_ : ∀ (p : Addr) (ss' : List Str) (H' : Hp), H p = none → Same H H' → H' p = some (.lst (ss'.map V.str)) → ss'.Perm ss → sortedS ss' = true → Q (.ref p) H') : r_call_sortedDI xs H Q
end
end L2

set_option Elab.async false
set_option linter.all false
set_option maxRecDepth 100000
set_option maxHeartbeats 4000000
namespace L2
open PySem PySem.Spec PyProof.Rows
structure Txt (mg : Str → Option Value) : Prop where
  isinstance : mg "isinstance" = none
  int : mg "int" = none
  bool : mg "bool" = none
  str : mg "str" = none
  list : mg "list" = none
  dict : mg "dict" = none
  tuple : mg "tuple" = none
  len : mg "len" = none
  range : mg "range" = none
  max : mg "max" = none
  min : mg "min" = none
  sorted : mg "sorted" = none
  all : mg "all" = none
  any : mg "any" = none
  reversed : mg "reversed" = none
  ValueError : mg "ValueError" = none
  sum : mg "sum" = none
theorem b_isinstance : bootBuiltins "isinstance" = some (.builtin "isinstance") := by decide +kernel
theorem b_max : bootBuiltins "max" = some (.builtin "max") := by decide +kernel
theorem b_min : bootBuiltins "min" = some (.builtin "min") := by decide +kernel
theorem iteBF {c : Bool} {A B : Prop} (hc : c = false) (h : B) : if c = true then A else B := by
  rw [hc]
  exact iteF h
theorem iteBT {c : Bool} {A B : Prop} (hc : c = true) (h : A) : if c = true then A else B := by
  rw [hc]
  exact iteT h
inductive DfE (P : Program) (w : World) (K : PySem.W.Frag) (mg : Str → Option Value) (base : Heap) (x : Str) (ps : List Str) (n : Nat) (sp : Sp) : Prop
  | mk (f : Addr) (fd : FuncData) (k : PySem.W.keepIn K (.ref f) = true) (b : Binds K fd ps []) (m : mg x = some (.ref f)) (G : FnOk P w K mg base CX0 n f fd ps sp) : DfE P w K mg base x ps n sp
structure Df (P : Program) (w : World) (K : PySem.W.Frag) (mg : Str → Option Value) (base : Heap) (x : Str) (ps : List Str) (n : Nat) (sp : Sp) : Prop where
  ex : DfE P w K mg base x ps n sp
theorem Df.mk' {P : Program} {w : World} {K : PySem.W.Frag} {mg : Str → Option Value} {base : Heap} {x q : Str} {st : Stmt} {ps : List Str} {n : Nat} {sp : Sp} {f : Addr} {fd : FuncData} (F : Fun K x q st f fd) (b : Binds K fd ps []) (m : mg x = some (.ref f)) (G : FnOk P w K mg base CX0 n f fd ps sp) : Df P w K mg base x ps n sp := ⟨⟨f, fd, F.kp, b, m, G⟩⟩
theorem Df.mono {P : Program} {w : World} {K : PySem.W.Frag} {mg : Str → Option Value} {base : Heap} {x : Str} {ps : List Str} {n k : Nat} {sp : Sp} (D : Df P w K mg base x ps n sp) (h : n ≤ k) : Df P w K mg base x ps k sp := by
  obtain ⟨f, fd, k1, b, m, G⟩ := D.ex
  exact ⟨⟨f, fd, k1, b, m, G.mono h⟩⟩
def Chg (b : Addr) (H H' : Hp) : Prop := ∀ a o, a ≠ b → H a = some o → H' a = some o
theorem Chg.upd {b : Addr} {H : Hp} {o : HO} : Chg b H (L2.upd H b o) := fun a u h e => by rw [upd_ne h]; exact e
theorem Chg.of {b : Addr} {H H1 H2 : Hp} (s : Same H H1) (c : Chg b H1 H2) : Chg b H H2 := fun a u h e => c a u h (s a u e)
end L2

set_option Elab.async false
set_option linter.all false
set_option maxRecDepth 100000
set_option maxHeartbeats 4000000
namespace L2
open PySem PySem.Spec PyProof.Rows
def txtB (x : Str) : Bool := decide (x.length ≤ 12) && (sgn x).all isL
def LeafV (v : V) : Prop := (∃ i : Int, v = .int i ∧ i.natAbs < 2 ^ 400) ∨ ∃ x : Str, v = .str x ∧ txtB x = true
namespace Dc
mutual
def ok : Dc → Prop
  | leaf v => LeafV v
  | row _ xs => okL xs
  | tab _ ks xs => (∀ k ∈ ks, nameB k = true) ∧ okL xs
def okL : List Dc → Prop
  | [] => True
  | x :: r => ok x ∧ okL r
end
theorem okL_iff : ∀ {xs : List Dc}, okL xs ↔ ∀ x ∈ xs, ok x
  | [] => by simp [okL]
  | x :: r => by simp only [okL, List.forall_mem_cons, okL_iff (xs := r)]
mutual
theorem put_ok {b : Addr} {i : Nat} {k : Str} {p : Dc} (hp : p.ok) (hk : nameB k = true) : ∀ d : Dc, d.ok → (put b i k p d).ok
  | leaf v, h => h
  | row a xs, h => by
    simp only [put]
    split
    · simp only [ok] at h ⊢
      rw [okL_iff] at h ⊢
      intro x hx
      rcases List.mem_append.mp hx with hx | hx
      · exact h x (List.mem_of_mem_take hx)
      · rcases List.mem_cons.mp hx with rfl | hx
        · exact hp
        · exact h x (List.mem_of_mem_drop hx)
    · simp only [ok] at h ⊢
      exact putL_ok hp hk xs h
  | tab a ks xs, h => by
    simp only [put]
    simp only [ok] at h
    split
    · simp only [ok]
      refine ⟨fun x hx => ?_, ?_⟩
      · rcases List.mem_append.mp hx with hx | hx
        · exact h.1 x hx
        · rw [List.mem_singleton.mp hx]; exact hk
      · rw [okL_iff]
        intro x hx
        rcases List.mem_append.mp hx with hx | hx
        · exact okL_iff.mp h.2 x hx
        · rw [List.mem_singleton.mp hx]; exact hp
    · simp only [ok]
      exact ⟨h.1, putL_ok hp hk xs h.2⟩
theorem putL_ok {b : Addr} {i : Nat} {k : Str} {p : Dc} (hp : p.ok) (hk : nameB k = true) : ∀ xs : List Dc, okL xs → okL (putL b i k p xs)
  | [], h => h
  | x :: r, h => by
    simp only [okL, putL] at h ⊢
    exact ⟨put_ok hp hk x h.1, putL_ok hp hk r h.2⟩
end
mutual
def named (N : List Str) : Dc → Prop
  | leaf _ => True
  | row _ xs => namedL N xs
  | tab _ ks xs => (∀ k ∈ ks, k ∈ N) ∧ namedL N xs
def namedL (N : List Str) : List Dc → Prop
  | [] => True
  | x :: r => named N x ∧ namedL N r
end
theorem namedL_iff {N : List Str} : ∀ {xs : List Dc}, namedL N xs ↔ ∀ x ∈ xs, named N x
  | [] => by simp [namedL]
  | x :: r => by simp only [namedL, List.forall_mem_cons, namedL_iff (xs := r)]
mutual
theorem put_named {N : List Str} {b : Addr} {i : Nat} {k : Str} {p : Dc} (hp : p.named N) (hk : k ∈ N) : ∀ d : Dc, d.named N → (put b i k p d).named N
  | leaf v, h => h
  | row a xs, h => by
    simp only [put]
    split
    · simp only [named] at h ⊢
      rw [namedL_iff] at h ⊢
      intro x hx
      rcases List.mem_append.mp hx with hx | hx
      · exact h x (List.mem_of_mem_take hx)
      · rcases List.mem_cons.mp hx with rfl | hx
        · exact hp
        · exact h x (List.mem_of_mem_drop hx)
    · simp only [named] at h ⊢
      exact putL_named hp hk xs h
  | tab a ks xs, h => by
    simp only [put]
    simp only [named] at h
    split
    · simp only [named]
      refine ⟨fun x hx => ?_, ?_⟩
      · rcases List.mem_append.mp hx with hx | hx
        · exact h.1 x hx
        · rw [List.mem_singleton.mp hx]; exact hk
      · rw [namedL_iff]
        intro x hx
        rcases List.mem_append.mp hx with hx | hx
        · exact namedL_iff.mp h.2 x hx
        · rw [List.mem_singleton.mp hx]; exact hp
    · simp only [named]
      exact ⟨h.1, putL_named hp hk xs h.2⟩
theorem putL_named {N : List Str} {b : Addr} {i : Nat} {k : Str} {p : Dc} (hp : p.named N) (hk : k ∈ N) : ∀ xs : List Dc, namedL N xs → namedL N (putL b i k p xs)
  | [], h => h
  | x :: r, h => by
    simp only [namedL, putL] at h ⊢
    exact ⟨put_named hp hk x h.1, putL_named hp hk r h.2⟩
end
def Bare : Dc → Prop
  | leaf v => LeafV v
  | row _ xs => xs = []
  | tab _ ks xs => ks = [] ∧ xs = []
theorem Bare.ok {p : Dc} (h : Bare p) : p.ok := by
  cases p with
  | leaf v => exact h
  | row a xs => cases (show xs = [] from h); simp [Dc.ok, okL]
  | tab a ks xs => obtain ⟨rfl, rfl⟩ := (show ks = [] ∧ xs = [] from h); simp [Dc.ok, okL]
theorem Bare.named {p : Dc} {N : List Str} (h : Bare p) : p.named N := by
  cases p with
  | leaf v => trivial
  | row a xs => cases (show xs = [] from h); simp [Dc.named, namedL]
  | tab a ks xs => obtain ⟨rfl, rfl⟩ := (show ks = [] ∧ xs = [] from h); simp [Dc.named, namedL]
theorem Bare.size {p : Dc} (h : Bare p) : p.size = 1 := by
  cases p with
  | leaf v => rfl
  | row a xs => cases (show xs = [] from h); simp [Dc.size, sizeL]
  | tab a ks xs => obtain ⟨rfl, rfl⟩ := (show ks = [] ∧ xs = [] from h); simp [Dc.size, sizeL]
theorem Bare.nodup {p : Dc} (h : Bare p) : p.addrs.Nodup := by
  cases p with
  | leaf v => simp [addrs]
  | row a xs => cases (show xs = [] from h); simp [addrs, addrsL]
  | tab a ks xs => obtain ⟨rfl, rfl⟩ := (show ks = [] ∧ xs = [] from h); simp [addrs, addrsL]
def sub : Dc → List V → Option Dc
  | d, [] => some d
  | row _ xs, .int i :: r => if 0 ≤ i then (xs[i.toNat]?).bind fun x => sub x r else none
  | tab _ ks xs, .str k :: r => ((ks.zip xs).lookup k).bind fun x => sub x r
  | _, _ => none
def StepV (v : V) : Prop := (∃ k : Nat, v = .int (k : Int)) ∨ ∃ x : Str, v = .str x ∧ nameB x = true
theorem mem_zip_lookup {ks : List Str} {xs : List Dc} {k : Str} {x : Dc} (h : (ks.zip xs).lookup k = some x) : k ∈ ks ∧ x ∈ xs := by
  induction ks generalizing xs with
  | nil => simp at h
  | cons y r ih =>
    cases xs with
    | nil => simp at h
    | cons z zs =>
      simp only [List.zip_cons_cons, List.lookup_cons] at h
      by_cases e : k = y
      · subst e
        simp at h
        subst h
        exact ⟨List.mem_cons_self, List.mem_cons_self⟩
      · have : (k == y) = false := by simpa using e
        rw [this] at h
        have := ih h
        exact ⟨List.mem_cons_of_mem _ this.1, List.mem_cons_of_mem _ this.2⟩
theorem lookup_of_mem {ks : List Str} {xs : List Dc} (h : ks.length = xs.length) {k : Str} (hk : k ∈ ks) : ∃ x, (ks.zip xs).lookup k = some x ∧ x ∈ xs := by
  induction ks generalizing xs with
  | nil => cases hk
  | cons y r ih =>
    cases xs with
    | nil => simp at h
    | cons z zs =>
      by_cases e : k = y
      · subst e
        exact ⟨z, by simp, List.mem_cons_self⟩
      · obtain ⟨x, h1, h2⟩ := ih (xs := zs) (by simpa using h) ((List.mem_cons.mp hk).resolve_left e)
        refine ⟨x, ?_, List.mem_cons_of_mem _ h2⟩
        have : (k == y) = false := by simpa using e
        simp [List.zip_cons_cons, List.lookup_cons, this, h1]
end Dc
inductive spCellI (K : PySem.W.Frag) (vs : List V) (H : Hp) (Q : VK) (u3_ : XK) : Prop
  | mk (a : Addr) (ns : List Int) (k : Nat) (x0 : vs = [.ref a, .int (k : Int)]) (x1 : SqL K H a (ns.map V.int)) (x2 : ∀ r : Int, 0 ≤ r → Q (.int r) H) : spCellI K vs H Q u3_
def spCell (K : PySem.W.Frag) : Sp := fun vs H Q u3_ => spCellI K vs H Q u3_
inductive spMixI (vs : List V) (H : Hp) (Q : VK) (u3_ : XK) : Prop
  | mk (c : Int) (k : Nat) (x0 : vs = [.int c, .int (k : Int)]) (x1 : k ≤ 1000) (x2 : ∀ r : Int, 0 ≤ r → r < 2305843009213693951 → Q (.int r) H) : spMixI  vs H Q u3_
def divs : Nat → Int → Int
  | 0, n => n
  | k + 1, n => divs k n / 1000000
def mixN (c : Int) (k : Nat) : Int := (((c + 3) * 1181783497276652981 % 2305843009213693951 + ((k : Int) + 1) * 614889782588491411) % 2305843009213693951) * (((c + 3) * 1181783497276652981 % 2305843009213693951 + ((k : Int) + 1) * 614889782588491411) % 2305843009213693951) % 999999999999999989
def mixF (c : Int) (k : Nat) : Int := if c % 4 = 0 ∧ 4 * 10 ^ 60 ≤ c then divs k (c / 4) % 1000000 else (mixN c k + 1) * (mixN c k / 1000003 + 7) % 2305843009213693951 / 7919
inductive spMixFI (vs : List V) (H : Hp) (Q : VK) (u3_ : XK) : Prop
  | mk (c : Int) (k : Nat) (x0 : vs = [.int c, .int (k : Int)]) (x1 : k ≤ 1000) (x2 : Q (.int (mixF c k)) H) : spMixFI  vs H Q u3_
inductive spNamesI (vs : List V) (H : Hp) (Q : VK) (u3_ : XK) : Prop
  | mk (c : Int) (d : Int) (x0 : vs = [.int c, .int d]) (x1 : ∀ (p : Addr) (ys : List Str) (H' : Hp), Same H H' → H p = none → H' p = some (.lst (ys.map V.str)) → ys.length = 6 → ys.Nodup → (∀ y ∈ ys, nameB y = true) → Q (.ref p) H') : spNamesI  vs H Q u3_
inductive spLeafI (vs : List V) (H : Hp) (Q : VK) (u3_ : XK) : Prop
  | mk (c : Int) (x0 : vs = [.int c]) (x1 : ∀ v H', LeafV v → Same H H' → Q v H') : spLeafI  vs H Q u3_
inductive spPartI (vs : List V) (H : Hp) (Q : VK) (u3_ : XK) : Prop
  | mk (c : Int) (d : Int) (m : Int) (x0 : vs = [.int c, .int d, .int m]) (x1 : ∀ (p : Dc) (H' : Hp), Same H H' → p.At H' → p.Bare → (∀ a ∈ p.addrs, ∀ o u, H' a ≠ some (.frz o u)) → (∀ a ∈ p.addrs, H a = none) → Q p.val H') : spPartI  vs H Q u3_
def LaidAt (N : List Str) (b : Addr) (y : V) (H H' : Hp) : Prop :=
  (∃ vs i, H b = some (.lst vs) ∧ H' b = some (.lst (vs.take i ++ y :: vs.drop i))) ∨ ∃ kv k, H b = some (.dK kv) ∧ (Sum.inr k : Key) ∉ kv.map (·.1) ∧ (nameB k = true ∧ k ∈ N) ∧ H' b = some (.dK (kv ++ [(Sum.inr k, y)]))
inductive spLaidI (K : PySem.W.Frag) (vs : List V) (H : Hp) (Q : VK) (u3_ : XK) : Prop
  | mk (b : Addr) (n : Addr) (y : V) (ys : List Str) (c : Int) (x0 : vs = [.ref b, y, .ref n, .int c]) (x1 : 0 ≤ c) (x2 : SqL K H n (ys.map V.str)) (x3 : ys.length ≤ 100) (x4 : (∀ y ∈ ys, nameB y = true)) (x5 : ((∃ vs, H b = some (.lst vs) ∧ vs.length ≤ 1000) ∨ ∃ kv, H b = some (.dK kv) ∧ kv.length ≤ 1000)) (x6 : (∀ H', Chg b H H' → LaidAt ys b y H H' → Q (.bl true) H')) (x7 : ∀ H', Same H H' → Q (.bl false) H') : spLaidI K vs H Q u3_
structure Made (H H' : Hp) (d : Dc) : Prop where
  same : Same H H'
  at_ : d.At H'
  ok : d.ok
  nd : d.addrs.Nodup
  own : ∀ a ∈ d.addrs, ∀ o u, H' a ≠ some (.frz o u)
  new : ∀ a ∈ d.addrs, H a = none
inductive spDocI (K : PySem.W.Frag) (vs : List V) (H : Hp) (Q : VK) (u3_ : XK) : Prop
  | mk (a : Addr) (n : Addr) (ns : List Int) (k : Nat) (ys : List Str) (x0 : vs = [.ref a, .int (k : Int), .ref n]) (x1 : SqL K H a (ns.map V.int)) (x2 : ns.length ≤ 63) (x3 : k ≤ 1000) (x4 : H n = some (.lst (ys.map V.str))) (x5 : ys.length ≤ 100) (x6 : (∀ y ∈ ys, nameB y = true)) (x7 : ∀ (t : Addr) (d : Dc) (H' : Hp), Made H H' d → H' t = some (.tup [d.val, .int (d.size : Int)]) → d.size ≤ 40 → (ys ≠ [] → d.named ys) → Q (.ref t) H') : spDocI K vs H Q u3_
inductive spDoc2I (K : PySem.W.Frag) (vs : List V) (H : Hp) (Q : VK) (u3_ : XK) : Prop
  | mk (a : Addr) (n : Addr) (ns : List Int) (k : Nat) (ys : List Str) (x0 : vs = [.ref a, .int (k : Int), .ref n]) (x1 : SqL K H a (ns.map V.int)) (x2 : ns.length ≤ 63) (x3 : k ≤ 1000) (x4 : H n = some (.lst (ys.map V.str))) (x5 : ys.length ≤ 100) (x6 : (∀ y ∈ ys, nameB y = true)) (x7 : ∀ (t : Addr) (d : Dc) (H' : Hp), Made H H' d → H' t = some (.tup [d.val, .int (d.size : Int)]) → d.size ≤ 24 → (ys ≠ [] → d.named ys) → Q (.ref t) H') : spDoc2I K vs H Q u3_
inductive spLawI (K : PySem.W.Frag) (vs : List V) (H : Hp) (Q : VK) (u3_ : XK) : Prop
  | mk (a : Addr) (ns : List Int) (x0 : vs = [.ref a]) (x1 : SqL K H a (ns.map V.int)) (x2 : ns.length ≤ 63) (x3 : ∀ H', Q (.bl true) H') : spLawI K vs H Q u3_
def spLaw (K : PySem.W.Frag) : Sp := fun vs H Q u3_ => spLawI K vs H Q u3_
end L2

set_option Elab.async false
set_option linter.all false
set_option maxRecDepth 100000
set_option maxHeartbeats 4000000
namespace L2
open PySem PySem.Spec PyProof.Rows
theorem le_line {n : Nat} (h : n ≤ 1000) : n ≤ sizeLine := Nat.le_of_lt (small1000 h)
theorem two_line {x y : V} : [x, y].length ≤ sizeLine := le_line (show 2 ≤ 1000 by decide)
theorem one_line {x : V} : [x].length ≤ sizeLine := le_line (show 1 ≤ 1000 by decide)
theorem Dc.there {H : Hp} {d : Dc} {b : Addr} (h : d.At H) (hb : b ∈ d.addrs) : H b ≠ none := by
  have f : ∀ u, Rd H b u → H b ≠ none := fun u r z => by
    rcases r with r | ⟨o, r⟩ <;> rw [r] at z <;> cases z
  rcases Dc.holder_at d h hb with ⟨vs, e, _⟩ | ⟨ks, kv, e, _⟩
  · exact f _ e
  · exact f _ e
theorem Rd.exact {H : Hp} {b : Addr} {u : HO} (r : Rd H b u) (no : ∀ o u, H b ≠ some (.frz o u)) : H b = some u := r.elim id fun ⟨o, e⟩ => absurd e (no o u)
theorem frz_up {H H' : Hp} {a : Addr} (h : H a ≠ none) (no : ∀ o u, H a ≠ some (.frz o u)) (s : ∀ o, H a = some o → H' a = some o) : ∀ o u, H' a ≠ some (.frz o u) := fun o u e => by
  cases q : H a with
  | none => exact h q
  | some x =>
    rw [s x q] at e
    cases e
    exact no o u q
structure DocInv (H Hi : Hp) (d : Dc) (L : Addr) (ts : List Addr) : Prop where
  made : Made H Hi d
  nL : H L = none
  eL : Hi L = some (.lst (ts.map V.ref))
  out : L ∉ d.addrs
  hold : ∀ t ∈ ts, ∃ b k, Hi t = some (.tup [.ref b, .int k]) ∧ b ∈ d.addrs
theorem Made.up {H H1 H2 : Hp} {d : Dc} (D : Made H H1 d) (s : Same H1 H2) : Made H H2 d := ⟨D.same.trans s, Dc.at_same s D.at_, D.ok, D.nd, fun a ha => frz_up (Dc.there D.at_ ha) (D.own a ha) (s a), D.new⟩
theorem DocInv.up {H H1 H2 : Hp} {d : Dc} {L : Addr} {ts : List Addr} (D : DocInv H H1 d L ts) (s : Same H1 H2) : DocInv H H2 d L ts :=
  ⟨D.made.up s, D.nL, s _ _ D.eL, D.out, fun t ht => let ⟨b, k, e, hb⟩ := D.hold t ht; ⟨b, k, s _ _ e, hb⟩⟩
theorem DocInv.push {H H1 : Hp} {d : Dc} {L t b : Addr} {k : Int} {ts : List Addr} (D : DocInv H H1 d L ts) (ht : H1 t = some (.tup [.ref b, .int k])) (hb : b ∈ d.addrs) : DocInv H (upd H1 L (.lst (ts.map V.ref ++ [.ref t]))) d L (ts ++ [t]) := by
  have fr : ∀ a ∈ d.addrs, ∀ o, H1 a = some o → upd H1 L (.lst (ts.map V.ref ++ [.ref t])) a = some o := fun a ha o e => by
    have hne : a ≠ L := fun z => D.out (by rw [← z]; exact ha)
    rw [upd_ne hne]
    exact e
  refine ⟨⟨D.made.same.put D.nL, Dc.at_frame d fr D.made.at_, D.made.ok, D.made.nd, fun a ha => frz_up (Dc.there D.made.at_ ha) (D.made.own a ha) (fr a ha), D.made.new⟩, D.nL, by rw [upd_same, List.map_append]; rfl, D.out, fun t' ht' => ?_⟩
  · have ne : ∀ {t' : Addr} {xs : List V}, H1 t' = some (.tup xs) → t' ≠ L := fun h => ne_of h D.eL (by intro z; cases z)
    rcases List.mem_append.mp ht' with h | h
    · obtain ⟨b', k', e, hb'⟩ := D.hold t' h
      exact ⟨b', k', by rw [upd_ne (ne e)]; exact e, hb'⟩
    · rw [List.mem_singleton.mp h]
      exact ⟨b, k, by rw [upd_ne (ne ht)]; exact ht, hb⟩
theorem Made.laid {N : List Str} {H H1 H2 H3 : Hp} {d p : Dc} {b : Addr} (D : Made H H1 d) (s : Same H1 H2) (hp : p.At H2) (pk : p.ok) (pn : p.addrs.Nodup) (po : ∀ a ∈ p.addrs, ∀ o u, H2 a ≠ some (.frz o u)) (new : ∀ a ∈ p.addrs, H1 a = none) (hb : b ∈ d.addrs) (c : Chg b H2 H3) (la : LaidAt N b p.val H2 H3) :
    ∃ d' : Dc, d'.val = d.val ∧ d'.size = d.size + p.size ∧ Made H H3 d' ∧ (∀ a ∈ p.addrs, a ∈ d'.addrs) ∧ (∀ a ∈ d.addrs, a ∈ d'.addrs) ∧ (∀ a ∈ d'.addrs, a ∈ d.addrs ∨ a ∈ p.addrs) ∧ p.At H3 ∧ ((∃ y ∈ N, nameB y = true) → p.named N → d.named N → d'.named N) := by
  have dj : ∀ x ∈ d.addrs, x ∉ p.addrs := fun x hx hp' => Dc.there D.at_ hx (new x hp')
  have hp3 : p.At H3 := Dc.at_frame p (fun a ha o e => c a o (fun z => dj b hb (by rw [← z]; exact ha)) e) hp
  have sm : Same H H3 := fun a o e => c a o (ne_of_none e (D.new b hb)) ((D.same.trans s) a o e)
  have fr : ∀ a ∈ d.addrs, a ≠ b → ∀ o, H2 a = some o → H3 a = some o := fun a _ h o e => c a o h e
  have at2 := Dc.at_same s D.at_
  have own3 : ∀ o u, H3 b ≠ some (.frz o u) := fun o u e => by
    rcases la with ⟨vs, i, _, z⟩ | ⟨kv, k, _, _, ⟨_, _⟩, z⟩ <;> rw [z] at e <;> cases e
  have go : ∀ (i : Nat) (k : Str), (nameB k = true) → ((∃ y ∈ N, nameB y = true) → k ∈ N) → (∀ vs, Rd H2 b (.lst vs) → H3 b = some (.lst (vs.take i ++ p.val :: vs.drop i))) → (∀ kv, Rd H2 b (.dK kv) → (Sum.inr k : Key) ∉ kv.map (·.1) ∧ H3 b = some (.dK (kv ++ [(Sum.inr k, p.val)]))) →
      ∃ d' : Dc, d'.val = d.val ∧ d'.size = d.size + p.size ∧ Made H H3 d' ∧ (∀ a ∈ p.addrs, a ∈ d'.addrs) ∧ (∀ a ∈ d.addrs, a ∈ d'.addrs) ∧ (∀ a ∈ d'.addrs, a ∈ d.addrs ∨ a ∈ p.addrs) ∧ p.At H3 ∧ ((∃ y ∈ N, nameB y = true) → p.named N → d.named N → d'.named N) := fun i k nk inN hrow htab => by
    refine ⟨Dc.put b i k p d, Dc.put_val .., Dc.put_size d hb D.nd, ⟨sm, Dc.put_at hp3 hrow htab d fr D.nd at2, Dc.put_ok pk nk d D.ok, Dc.put_nodup pn d D.nd dj, fun a ha => ?_, fun a ha => ?_⟩, fun a ha => (Dc.put_addrs d a).2.2 hb ha, fun a ha => (Dc.put_addrs d a).2.1 ha, fun a ha => ((Dc.put_addrs d a).1 ha).imp id fun z => z.2, hp3, fun hN n1 n2 => Dc.put_named n1 (inN hN) d n2⟩
    · by_cases hab : a = b
      · subst hab
        exact own3
      · rcases (Dc.put_addrs d a).1 ha with h | h
        · exact frz_up (Dc.there at2 h) ((D.up s).own a h) (fun o => c a o hab)
        · exact frz_up (Dc.there hp h.2) (po a h.2) (fun o => c a o hab)
    · rcases (Dc.put_addrs d a).1 ha with h | h
      · exact D.new a h
      · exact D.same.free (new a h.2)
  have rx : ∀ u, Rd H2 b u → H2 b = some u := fun u r => r.exact ((D.up s).own b hb)
  rcases la with ⟨vs, i, e1, e2⟩ | ⟨kv, k, e1, nk, ⟨nb, nN⟩, e2⟩
  · obtain ⟨k0, hk0, inN⟩ : ∃ k0 : Str, nameB k0 = true ∧ ((∃ y ∈ N, nameB y = true) → k0 ∈ N) := by
      by_cases h : ∃ y ∈ N, nameB y = true
      · obtain ⟨y, h1, h2⟩ := h
        exact ⟨y, h2, fun _ => h1⟩
      · exact ⟨"a", by decide +kernel, fun z => absurd z h⟩
    refine go i k0 hk0 inN (fun vs' e => ?_) (fun kv e => ?_)
    · rw [rx _ e] at e1; cases e1; exact e2
    · rw [rx _ e] at e1; cases e1
  · refine go 0 k nb (fun _ => nN) (fun vs' e => ?_) (fun kv' e => ?_)
    · rw [rx _ e] at e1; cases e1
    · rw [rx _ e] at e1; cases e1; exact ⟨nk, e2⟩
theorem DocInv.laid {N : List Str} {H H1 H2 H3 : Hp} {d p : Dc} {b L : Addr} {ts : List Addr} (D : DocInv H H1 d L ts) (s : Same H1 H2) (hp : p.At H2) (bp : p.Bare) (po : ∀ a ∈ p.addrs, ∀ o u, H2 a ≠ some (.frz o u)) (new : ∀ a ∈ p.addrs, H1 a = none) (hb : b ∈ d.addrs) (c : Chg b H2 H3) (la : LaidAt N b p.val H2 H3) :
    ∃ d' : Dc, d'.val = d.val ∧ d'.size = d.size + 1 ∧ DocInv H H3 d' L ts ∧ (∀ a ∈ p.addrs, a ∈ d'.addrs) ∧ p.At H3 ∧ ((∃ y ∈ N, nameB y = true) → d.named N → d'.named N) := by
  obtain ⟨d', e1, e2, m, i1, i2, i3, at3, nm⟩ := D.made.laid s hp bp.ok bp.nodup po new hb c la
  rw [bp.size] at e2
  have D2 := D.up s
  refine ⟨d', e1, e2, ⟨m, D.nL, ?_, ?_, fun t ht => ?_⟩, i1, at3, fun hN n => nm hN bp.named n⟩
  · exact c _ _ (fun z => D.out (by rw [z]; exact hb)) D2.eL
  · intro h
    rcases i3 L h with h | h
    · exact D.out h
    · have := new L h
      rw [D.eL] at this
      cases this
  · obtain ⟨b', k, e, hb'⟩ := D2.hold t ht
    refine ⟨b', k, c _ _ ?_ e, i2 b' hb'⟩
    rcases la with ⟨vs, i, z, _⟩ | ⟨kv, k', z, _⟩
    · exact ne_of e z (by intro z; cases z)
    · exact ne_of e z (by intro z; cases z)
namespace Dc
mutual
def slim : Dc → Prop
  | leaf _ => True
  | row _ xs => slimL xs
  | tab _ _ xs => xs.length < 64 ∧ slimL xs
def slimL : List Dc → Prop
  | [] => True
  | x :: r => slim x ∧ slimL r
end
theorem slimL_mem : ∀ {xs : List Dc}, slimL xs → ∀ x ∈ xs, slim x
  | [], _, x, hx => nomatch hx
  | y :: r, h, x, hx => by
    simp only [slimL] at h
    rcases List.mem_cons.mp hx with rfl | hx
    · exact h.1
    · exact slimL_mem h.2 x hx
mutual
theorem slim_of : ∀ d : Dc, d.size < 64 → d.slim
  | leaf _, _ => trivial
  | row a xs, h => by
    simp only [size] at h
    simp only [slim]
    exact slimL_of xs (by omega)
  | tab a ks xs, h => by
    simp only [size] at h
    simp only [slim]
    have := lenL xs
    exact ⟨by omega, slimL_of xs (by omega)⟩
theorem slimL_of : ∀ xs : List Dc, sizeL xs < 64 → slimL xs
  | [], _ => trivial
  | x :: r, h => by
    simp only [sizeL] at h
    simp only [slimL]
    exact ⟨slim_of x (by omega), slimL_of r (by omega)⟩
end
def szAt (ks : List Str) (xs : List Dc) (k : Str) : Nat := (((ks.zip xs).lookup k).map size).getD 0
theorem szAt_sum : ∀ {ks : List Str} {xs : List Dc}, ks.length = xs.length → ks.Nodup → (ks.map (szAt ks xs)).sum = sizeL xs
  | [], xs, h, _ => by
    cases xs with
    | nil => rfl
    | cons x r => simp at h
  | k :: ks, [], h, _ => by simp at h
  | k :: ks, x :: xs, h, n => by
    obtain ⟨n1, n2⟩ := List.nodup_cons.mp n
    have e1 : szAt (k :: ks) (x :: xs) k = x.size := by simp [szAt]
    have e2 : ks.map (szAt (k :: ks) (x :: xs)) = ks.map (szAt ks xs) := List.map_congr_left fun y hy => by
      have ne : y ≠ k := fun z => n1 (z ▸ hy)
      have : (y == k) = false := by simpa using ne
      simp [szAt, List.zip_cons_cons, List.lookup_cons, this]
    rw [List.map_cons, List.sum_cons, e1, e2, szAt_sum (by simpa using h) n2]
    simp only [sizeL]
theorem szAt_perm {ks ss : List Str} {xs : List Dc} (h : ks.length = xs.length) (n : ks.Nodup) (p : ss.Perm ks) : (ss.map (szAt ks xs)).sum = sizeL xs := by
  rw [(p.map _).sum_nat, szAt_sum h n]
end Dc
end L2

set_option Elab.async false
set_option linter.all false
set_option maxRecDepth 100000
set_option maxHeartbeats 4000000
namespace L2
open PySem PySem.Spec PyProof.Rows
section
variable {X : Cx} {pins : List (Addr × Obj)} {σ : St} {H : Hp} {s : Shared} {a : Addr} {kvs : List (Key × V)}
theorem Inv.thaw {o : Obj} (I : Inv X pins σ H s) (e : H a = some (.frz o (.dK kvs))) (nf : ∀ o u, X.H₀ a ≠ some (.frz o u)) : Inv X pins σ (upd H a (.dK kvs)) s := by
  have ok := (show ObjOk X.prog X.w H s.heap a (.frz o (.dK kvs)) from I.hok a _ e)
  have hne : ∀ b u, H b = some u → u ≠ .frz o (.dK kvs) → b ≠ a := fun b u q n w => by
    subst w
    rw [e] at q
    exact n (Option.some.inj q).symm
  have hnn : ∀ b, H b = none → b ≠ a := fun b n w => by subst w; rw [e] at n; cases n
  have B := I.base
  refine ⟨I.ok, I.os, I.bare, ⟨B.keep, B.slot, fun b ob q n hx => by rw [upd_ne (hnn b (B.free b ob q n hx))]; exact B.free b ob q n hx, B.there, fun b xs q => by rw [upd_ne (hne b _ (B.tups b xs q) (by intro z; cases z))]; exact B.tups b xs q,
    fun b ob u q => by rw [upd_ne (fun w => nf ob u (by rw [← w]; exact q))]; exact B.frzs b ob u q, fun b ps q => ?_⟩, I.loc, I.cell, by rw [upd_ne (hnn _ I.free)]; exact I.free, fun x c q => by rw [upd_ne (hnn _ (I.freeC x c q))]; exact I.freeC x c q,
    fun p hp => let ⟨p1, p2, p3⟩ := I.pin p hp; ⟨p1, by rw [upd_ne (hnn _ p2)]; exact p2, p3⟩, fun b u q => ?_, I.len⟩
  · obtain ⟨more, e'⟩ := B.tbls b ps q
    exact ⟨more, by rw [upd_ne (hne b _ e' (by intro z; cases z))]; exact e'⟩
  · by_cases hb : b = a
    · subst hb
      rw [upd_same] at q
      cases q
      exact ok.2
    · rw [upd_ne hb] at q
      exact (I.hok b u q).stay (fun c v _ r => r) (fun c r => by rw [upd_ne (hne c _ r (by intro z; cases z))]; exact r) fun c xs r => by rw [upd_ne (hne c _ r (by intro z; cases z))]; exact r
theorem Inv.nf (I : Inv X pins σ H s) (e : H a = some (.dK kvs)) : ∀ o u, X.H₀ a ≠ some (.frz o u) := fun o u q => by
  have := I.base.frzs a o u q
  rw [e] at this
  cases this
end
def Thaw (a : Addr) (o : Obj) (kvs : List (Key × V)) (k : Hp → Prop) : Hp → Prop := fun H => H a = some (.frz o (.dK kvs)) ∧ k (upd H a (.dK kvs))
inductive tFrzEI (t : TE) (σ : St) (H : Hp) (Q : VK) : Prop
  | mk (a : _) (kvs : _) (x0 : H a = some (.dK kvs)) (x1 : ∀ o, t σ (upd H a (.frz o (.dK kvs))) fun v => Thaw a o kvs (Q v)) : tFrzEI t σ H Q
inductive tFrzSI (t : TS) (D : Ends) (σ : St) (H : Hp) : Prop
  | mk (a : _) (kvs : _) (x0 : H a = some (.dK kvs)) (x1 : ∀ o, t ⟨fun σ => Thaw a o kvs (D.nx σ), fun v => Thaw a o kvs (D.rt v), fun σ => Thaw a o kvs (D.bk σ), fun σ => Thaw a o kvs (D.ct σ)⟩ σ (upd H a (.frz o (.dK kvs)))) : tFrzSI t D σ H
section
variable {X : Cx}
end
section
variable {X : Cx} {tg : Expr}
end
def SameR (H H' : Hp) : Prop := ∀ b u, Rd H b u → Rd H' b u
theorem Same.r {H H' : Hp} (s : Same H H') : SameR H H' := fun b u r => r.up fun o => s b o
theorem SameR.trans {H H1 H2 : Hp} (s : SameR H H1) (t : SameR H1 H2) : SameR H H2 := fun b u r => t b u (s b u r)
theorem SameR.frz {H : Hp} {a : Addr} {o : Obj} {kvs : List (Key × V)} (e : H a = some (.dK kvs)) : SameR H (upd H a (.frz o (.dK kvs))) := fun b u r => by
  by_cases hb : b = a
  · subst hb
    rcases r with r | ⟨o', r⟩
    · rw [e] at r; cases r; exact .inr ⟨o, upd_same⟩
    · rw [e] at r; cases r
  · exact r.up fun o' q => by rw [upd_ne hb]; exact q
theorem Same.thaw {H Hi : Hp} {a : Addr} {o : Obj} {kvs : List (Key × V)} (e : H a = some (.dK kvs)) (s : Same (upd H a (.frz o (.dK kvs))) Hi) : Hi a = some (.frz o (.dK kvs)) ∧ Same H (upd Hi a (.dK kvs)) := by
  refine ⟨s a _ upd_same, fun b u q => ?_⟩
  by_cases hb : b = a
  · subst hb
    rw [upd_same, ← e, q]
  · rw [upd_ne hb]
    exact s b u (by rw [upd_ne hb]; exact q)
end L2

set_option Elab.async false
set_option linter.all false
set_option maxRecDepth 100000
set_option maxHeartbeats 4000000
namespace PySem
open PyProof.Rows PySem.F PySem.Spec
section
variable {prog : Program} {w : World} {K : Type} [DecidableEq K] {knd : KeyKind prog w K} {A : Around} {R : Result → Shared → Prop}
end
end PySem
namespace L2
open PySem PySem.Spec PyProof.Rows
section
variable {X : Cx}
inductive rDictPI (K : PySem.W.Frag) (xs : List V) (H : Hp) (Q : VK) : Prop
  | mk (l : Addr) (ts : List Addr) (kvs : List (Key × V)) (x0 : xs = [.ref l]) (x1 : SqL K H l (ts.map V.ref)) (x2 : ts.length = kvs.length) (x3 : (∀ (j : Nat) k v, kvs[j]? = some (k, v) → ∃ t, ts[j]? = some t ∧ H t = some (.tup [kV k, v]))) (x4 : kvs.length ≤ 1000) (x5 : ∀ p, H p = none → Q (.ref p) (upd H p (.dK (mergeK [] kvs)))) : rDictPI K xs H Q
end
end L2

set_option Elab.async false
set_option linter.all false
set_option maxRecDepth 100000
set_option maxHeartbeats 4000000
namespace L2
open PySem PySem.Spec PyProof.Rows
theorem eqV_self {x : V} (h : flatV x = true) : eqV x x = true := by
  cases x <;> simp_all [flatV, eqV]
theorem eqTs_self {xs : List V} (h : ∀ z ∈ xs, flatV z = true) : eqTs xs xs = true := by
  unfold eqTs
  rw [Nat.min_self, Bool.and_eq_true]
  refine ⟨List.all_eq_true.mpr fun j hj => ?_, beq_self_eq_true _⟩
  have hj := List.mem_range.mp hj
  rw [List.getD_eq_getElem?_getD, List.getElem?_eq_getElem hj]
  exact eqV_self (h _ (List.getElem_mem hj))
section
variable {X : Cx}
theorem flat_eqAt {pins : List (Addr × Obj)} {σ : St} {H : Hp} {s : Shared} {A : Around} {xs ys : List V} {its its2 : List Value} (r1 : Vals xs its) (r2 : Vals ys its2) (fx : ∀ z ∈ xs, flatV z = true) (fy : ∀ z ∈ ys, flatV z = true)
    (j : Nat) (h1 : j < its.toArray.size) (h2 : j < its2.toArray.size) : SeqAt.EqAt A s its.toArray[j] its2.toArray[j] (eqV (xs.getD j .non) (ys.getD j .non)) := by
  have e1 : its.toArray.size = xs.length := by rw [List.size_toArray]; exact r1.length.symm
  have e2 : its2.toArray.size = ys.length := by rw [List.size_toArray]; exact r2.length.symm
  have h1' : j < xs.length := by rw [← e1]; exact h1
  have h2' : j < ys.length := by rw [← e2]; exact h2
  obtain ⟨u1, g1, s1⟩ := r1.get (List.getElem?_eq_getElem h1')
  obtain ⟨u2, g2, s2⟩ := r2.get (List.getElem?_eq_getElem h2')
  have w1 : its.toArray[j] = u1 := by
    have := (List.getElem?_eq_some_iff.mp g1).2
    simpa using this
  have w2 : its2.toArray[j] = u2 := by
    have := (List.getElem?_eq_some_iff.mp g2).2
    simpa using this
  rw [w1, w2]
  have d1 : xs.getD j .non = xs[j] := by rw [List.getD_eq_getElem?_getD, List.getElem?_eq_getElem h1']; rfl
  have d2 : ys.getD j .non = ys[j] := by rw [List.getD_eq_getElem?_getD, List.getElem?_eq_getElem h2']; rfl
  rw [d1, d2]
  exact eqAt_V s1 s2 (fx _ (List.getElem_mem h1')) (fy _ (List.getElem_mem h2'))
inductive rEqLI (K : PySem.W.Frag) (neg : Bool) (x : V) (y : V) (H : Hp) (Q : VK) : Prop
  | mk (a : Addr) (b : Addr) (xs : List V) (ys : List V) (x0 : x = .ref a) (x1 : y = .ref b) (x2 : SqL K H a xs) (x3 : SqL K H b ys) (x4 : (∀ z ∈ xs, flatV z = true)) (x5 : (∀ z ∈ ys, flatV z = true)) (x6 : Q (.bl (if neg then !eqTs xs ys else eqTs xs ys)) H) : rEqLI K neg x y H Q
def rEqL (K : PySem.W.Frag) (neg : Bool) : R2 := fun x y H Q => rEqLI K neg x y H Q
theorem op_eqL (hu : X.A.units < cLine) : OpR X (compareOp .Eq) (rEqL X.K false) := by
  intro pins s σ H x y v u Q I rx ry h
  obtain ⟨a, b, xs, ys, rfl, rfl, ha, hb, fx, fy, q⟩ := h
  cases rx
  cases ry
  obtain ⟨its, r1, p1, _⟩ := I.list ha
  obtain ⟨its2, r2, p2, _⟩ := I.list hb
  have e1 : its.toArray.size = xs.length := by rw [List.size_toArray]; exact r1.length.symm
  have e2 : its2.toArray.size = ys.length := by rw [List.size_toArray]; exact r2.length.symm
  by_cases hl : xs.length = ys.length
  · refine SeqAt.eq_listAt (e := fun j => eqV (xs.getD j .non) (ys.getD j .non)) p1.isList p2.isList (by rw [e1, e2, hl]) hu (fun j h1 h2 => flat_eqAt (pins := pins) (σ := σ) (H := H) r1 r2 fx fy j h1 h2) ?_
    refine ⟨.bl (eqTs xs ys), H, I, ?_, q⟩
    show Value.bool _ = Value.bool _
    congr 1
    unfold eqTs
    rw [e1, hl, Nat.min_self, beq_self_eq_true, Bool.and_true]
  · refine SeqAt.eq_list_lengthsAt p1.isList p2.isList (by rw [e1, e2]; simpa using hl) hu ⟨.bl (eqTs xs ys), H, I, ?_, q⟩
    show Value.bool _ = Value.bool _
    congr 1
    unfold eqTs
    rw [beq_eq_false_iff_ne.mpr hl, Bool.and_false]
theorem op_neL (hu : X.A.units < cLine) : OpR X (compareOp .NotEq) (rEqL X.K true) := by
  intro pins s σ H x y v u Q I rx ry h
  obtain ⟨a, b, xs, ys, rfl, rfl, ha, hb, fx, fy, q⟩ := h
  cases rx
  cases ry
  obtain ⟨its, r1, p1, _⟩ := I.list ha
  obtain ⟨its2, r2, p2, _⟩ := I.list hb
  have e1 : its.toArray.size = xs.length := by rw [List.size_toArray]; exact r1.length.symm
  have e2 : its2.toArray.size = ys.length := by rw [List.size_toArray]; exact r2.length.symm
  by_cases hl : xs.length = ys.length
  · refine SeqAt.RcNeAt.lists (e := fun j => eqV (xs.getD j .non) (ys.getD j .non)) p1.isList p2.isList (by rw [e1, e2, hl]) hu (fun j h1 h2 => flat_eqAt (pins := pins) (σ := σ) (H := H) r1 r2 fx fy j h1 h2) _ _ _ _ ?_
    refine ⟨.bl (!eqTs xs ys), H, I, ?_, q⟩
    show Value.bool _ = Value.bool _
    congr 2
    unfold eqTs
    rw [e1, hl, Nat.min_self, beq_self_eq_true, Bool.and_true]
  · refine SeqAt.RcNeAt.lists_lengths p1.isList p2.isList (by rw [e1, e2]; simpa using hl) hu _ _ _ _ ⟨.bl (!eqTs xs ys), H, I, ?_, q⟩
    show Value.bool _ = Value.bool _
    congr 1
    unfold eqTs
    rw [beq_eq_false_iff_ne.mpr hl, Bool.and_false]
    rfl
inductive r_call_list_rngI (xs : List V) (H : Hp) (Q : VK) : Prop
  | mk (r : Addr) (n : Nat) (h0_ : xs = [.ref r]) (h1_ : H r = some (.rng 0 (n : Int))) (h2_ : n ≤ 1000) (h3_ : ∀ l, H l = none → Q (.ref l) (upd H l (.lst ((List.range n).map fun (i : Nat) => V.int (i : Int))))) : r_call_list_rngI xs H Q
inductive r_call_dict_copyI (xs : List V) (H : Hp) (Q : VK) : Prop
  | mk (a : _) (kvs : _) (h0_ : xs = [.ref a]) (h1_ : Rd H a (.dK kvs)) (h2_ : ∀ p, H p = none → Q (.ref p) (upd H p (.dK kvs))) : r_call_dict_copyI xs H Q
inductive r_call_lenRI (xs : List V) (H : Hp) (Q : VK) : Prop
  | mk (a : _) (kvs : _) (h0_ : xs = [V.ref a]) (h1_ : Rd H a (.dK kvs)) (h2_ : Q (.int kvs.length) H) : r_call_lenRI xs H Q
end
end L2

set_option Elab.async false
set_option linter.all false
set_option maxRecDepth 100000
set_option maxHeartbeats 4000000
namespace L2
open PySem PySem.Spec PyProof.Rows
namespace Dc
mutual
def deep : Dc → Nat
  | leaf _ => 1
  | row _ xs => 1 + deepL xs
  | tab _ _ xs => 1 + deepL xs
def deepL : List Dc → Nat
  | [] => 0
  | x :: r => max (deep x) (deepL r)
end
theorem deepL_mem : ∀ {xs : List Dc} {x : Dc}, x ∈ xs → x.deep ≤ deepL xs
  | [], _, h => nomatch h
  | y :: r, x, h => by
    simp only [deepL]
    rcases List.mem_cons.mp h with rfl | h
    · omega
    · have := deepL_mem h
      omega
mutual
theorem deep_size : ∀ d : Dc, d.deep ≤ d.size
  | leaf _ => Nat.le_refl _
  | row a xs => by simp only [deep, size]; have := deepL_size xs; omega
  | tab a ks xs => by simp only [deep, size]; have := deepL_size xs; omega
theorem deepL_size : ∀ xs : List Dc, deepL xs ≤ sizeL xs
  | [] => Nat.le_refl _
  | x :: r => by simp only [deepL, sizeL]; have := deep_size x; have := deepL_size r; omega
end
mutual
def parts : Dc → List Dc
  | leaf v => [leaf v]
  | row a xs => row a xs :: partsL xs
  | tab a ks xs => tab a ks xs :: partsL xs
def partsL : List Dc → List Dc
  | [] => []
  | x :: r => parts x ++ partsL r
end
mutual
theorem parts_length : ∀ d : Dc, d.parts.length = d.size
  | leaf _ => rfl
  | row a xs => by simp only [parts, size, List.length_cons, partsL_length xs]; omega
  | tab a ks xs => by simp only [parts, size, List.length_cons, partsL_length xs]; omega
theorem partsL_length : ∀ xs : List Dc, (partsL xs).length = sizeL xs
  | [] => rfl
  | x :: r => by simp only [partsL, sizeL, List.length_append, parts_length x, partsL_length r]
end
structure PartOf (e d : Dc) : Prop where
  at_ : ∀ {H : Hp}, d.At H → e.At H
  ok : d.ok → e.ok
  slim : d.slim → e.slim
  deep : e.deep ≤ d.deep
  size : e.size ≤ d.size
  addrs : ∀ a ∈ e.addrs, a ∈ d.addrs
theorem PartOf.refl (d : Dc) : PartOf d d := ⟨id, id, id, Nat.le_refl _, Nat.le_refl _, fun _ h => h⟩
theorem PartOf.trans {e d c : Dc} (p : PartOf e d) (q : PartOf d c) : PartOf e c := ⟨fun h => p.at_ (q.at_ h), fun h => p.ok (q.ok h), fun h => p.slim (q.slim h), Nat.le_trans p.deep q.deep, Nat.le_trans p.size q.size, fun a h => q.addrs a (p.addrs a h)⟩
theorem PartOf.row {x : Dc} {a : Addr} {xs : List Dc} (h : x ∈ xs) : PartOf x (row a xs) :=
  ⟨fun q => by simp only [At] at q; exact AtL_mem q.2 x h, fun q => by simp only [Dc.ok] at q; exact okL_iff.mp q x h, fun q => by simp only [Dc.slim] at q; exact slimL_mem q x h,
    by simp only [Dc.deep]; have := deepL_mem h; omega, by simp only [Dc.size]; have := sizeL_mem h; omega, fun c hc => by simp only [Dc.addrs]; exact List.mem_cons_of_mem _ (addrsL_mem h hc)⟩
theorem PartOf.tab {x : Dc} {a : Addr} {ks : List Str} {xs : List Dc} (h : x ∈ xs) : PartOf x (tab a ks xs) :=
  ⟨fun q => by simp only [At] at q; exact AtL_mem q.2.2.2 x h, fun q => by simp only [Dc.ok] at q; exact okL_iff.mp q.2 x h, fun q => by simp only [Dc.slim] at q; exact slimL_mem q.2 x h,
    by simp only [Dc.deep]; have := deepL_mem h; omega, by simp only [Dc.size]; have := sizeL_mem h; omega, fun c hc => by simp only [Dc.addrs]; exact List.mem_cons_of_mem _ (addrsL_mem h hc)⟩
mutual
theorem part_of : ∀ (d : Dc) (e : Dc), e ∈ d.parts → PartOf e d
  | leaf v, e, h => by simp only [parts, List.mem_singleton] at h; subst h; exact .refl _
  | row a xs, e, h => by
    simp only [parts, List.mem_cons] at h
    rcases h with rfl | h
    · exact .refl _
    · obtain ⟨x, hx, hp⟩ := partL_of xs e h
      exact hp.trans (.row hx)
  | tab a ks xs, e, h => by
    simp only [parts, List.mem_cons] at h
    rcases h with rfl | h
    · exact .refl _
    · obtain ⟨x, hx, hp⟩ := partL_of xs e h
      exact hp.trans (.tab hx)
theorem partL_of : ∀ (xs : List Dc) (e : Dc), e ∈ partsL xs → ∃ x ∈ xs, PartOf e x
  | [], _, h => by simp [partsL] at h
  | x :: r, e, h => by
    simp only [partsL, List.mem_append] at h
    rcases h with h | h
    · exact ⟨x, List.mem_cons_self, part_of x e h⟩
    · obtain ⟨y, hy, he⟩ := partL_of r e h
      exact ⟨y, List.mem_cons_of_mem _ hy, he⟩
end
mutual
def like : Dc → Dc → Prop
  | leaf v, leaf w => v = w
  | row _ xs, row _ ys => likeL xs ys
  | tab _ ks xs, tab _ ls ys => ks = ls ∧ likeL xs ys
  | _, _ => False
def likeL : List Dc → List Dc → Prop
  | [], [] => True
  | x :: r, y :: t => like x y ∧ likeL r t
  | _, _ => False
end
theorem likeL_length : ∀ {xs ys : List Dc}, likeL xs ys → xs.length = ys.length
  | [], [], _ => rfl
  | [], _ :: _, h => by simp [likeL] at h
  | _ :: _, [], h => by simp [likeL] at h
  | x :: r, y :: t, h => by simp only [likeL] at h; simp only [List.length_cons, likeL_length h.2]
mutual
theorem like_refl : ∀ d : Dc, like d d
  | leaf _ => by simp [like]
  | row _ xs => by simp only [like]; exact likeL_refl xs
  | tab _ _ xs => by simp only [like]; exact ⟨trivial, likeL_refl xs⟩
theorem likeL_refl : ∀ xs : List Dc, likeL xs xs
  | [] => by simp [likeL]
  | x :: r => by simp only [likeL]; exact ⟨like_refl x, likeL_refl r⟩
end
mutual
theorem like_symm : ∀ d e : Dc, like d e → like e d
  | leaf v, e, h => by cases e <;> simp_all [like]
  | row a xs, e, h => by
    cases e with
    | row b ys => simp only [like] at h ⊢; exact likeL_symm xs ys h
    | _ => simp [like] at h
  | tab a ks xs, e, h => by
    cases e with
    | tab b ls ys => simp only [like] at h ⊢; exact ⟨h.1.symm, likeL_symm xs ys h.2⟩
    | _ => simp [like] at h
theorem likeL_symm : ∀ xs ys : List Dc, likeL xs ys → likeL ys xs
  | [], [], _ => by simp [likeL]
  | [], _ :: _, h => by simp [likeL] at h
  | _ :: _, [], h => by simp [likeL] at h
  | x :: r, y :: t, h => by simp only [likeL] at h ⊢; exact ⟨like_symm x y h.1, likeL_symm r t h.2⟩
end
mutual
theorem like_ok : ∀ d e : Dc, like d e → d.ok → e.ok
  | leaf v, e, h, k => by cases e <;> simp_all [like, ok]
  | row a xs, e, h, k => by
    cases e with
    | row b ys => simp only [like] at h; simp only [ok] at k ⊢; exact likeL_ok xs ys h k
    | _ => simp [like] at h
  | tab a ks xs, e, h, k => by
    cases e with
    | tab b ls ys => simp only [like] at h; simp only [ok] at k ⊢; exact ⟨h.1 ▸ k.1, likeL_ok xs ys h.2 k.2⟩
    | _ => simp [like] at h
theorem likeL_ok : ∀ xs ys : List Dc, likeL xs ys → okL xs → okL ys
  | [], [], _, _ => by simp [okL]
  | [], _ :: _, h, _ => by simp [likeL] at h
  | _ :: _, [], h, _ => by simp [likeL] at h
  | x :: r, y :: t, h, k => by simp only [likeL] at h; simp only [okL] at k ⊢; exact ⟨like_ok x y h.1 k.1, likeL_ok r t h.2 k.2⟩
end
mutual
theorem like_size : ∀ d e : Dc, like d e → d.size = e.size
  | leaf v, e, h => by cases e <;> simp_all [like, size]
  | row a xs, e, h => by
    cases e with
    | row b ys => simp only [like] at h; simp only [size, likeL_size xs ys h]
    | _ => simp [like] at h
  | tab a ks xs, e, h => by
    cases e with
    | tab b ls ys => simp only [like] at h; simp only [size, likeL_size xs ys h.2]
    | _ => simp [like] at h
theorem likeL_size : ∀ xs ys : List Dc, likeL xs ys → sizeL xs = sizeL ys
  | [], [], _ => rfl
  | [], _ :: _, h => by simp [likeL] at h
  | _ :: _, [], h => by simp [likeL] at h
  | x :: r, y :: t, h => by simp only [likeL] at h; simp only [sizeL, like_size x y h.1, likeL_size r t h.2]
end
def kids : Dc → List Dc
  | leaf _ => []
  | row _ xs => xs
  | tab _ _ xs => xs
def StepsOf : Dc → List V → Prop
  | leaf _, l => l = []
  | row _ xs, l => l = (List.range xs.length).map fun (i : Nat) => V.int (i : Int)
  | tab _ ks _, l => ∃ ss : List Str, l = ss.map V.str ∧ ss.Perm ks ∧ sortedS ss = true
end Dc
structure Fresh (H H' : Hp) (d : Dc) : Prop where
  same : Same H H'
  at_ : d.At H'
  nd : d.addrs.Nodup
  own : ∀ a ∈ d.addrs, ∀ o u, H' a ≠ some (.frz o u)
  new : ∀ a ∈ d.addrs, H a = none
theorem Made.fresh {H H' : Hp} {d : Dc} (m : Made H H' d) : Fresh H H' d := ⟨m.same, m.at_, m.nd, m.own, m.new⟩
theorem Fresh.made {H H' : Hp} {d : Dc} (m : Fresh H H' d) (ok : d.ok) : Made H H' d := ⟨m.same, m.at_, ok, m.nd, m.own, m.new⟩
theorem Fresh.up {H H1 H2 : Hp} {d : Dc} (D : Fresh H H1 d) (s : Same H1 H2) : Fresh H H2 d := ⟨D.same.trans s, Dc.at_same s D.at_, D.nd, fun a ha => frz_up (Dc.there D.at_ ha) (D.own a ha) (s a), D.new⟩
inductive spCopyI (n : Nat) (vs : List V) (H : Hp) (Q : VK) (u3_ : XK) : Prop
  | mk (d : Dc) (x0 : vs = [d.val]) (x1 : d.At H) (x2 : d.deep ≤ n) (x3 : d.size ≤ 900) (x4 : ∀ (d' : Dc) (H' : Hp), Fresh H H' d' → Dc.like d d' → Q d'.val H') : spCopyI n vs H Q u3_
inductive spAlikeI (n : Nat) (vs : List V) (H : Hp) (Q : VK) (u3_ : XK) : Prop
  | mk (d : Dc) (e : Dc) (x0 : vs = [d.val, e.val]) (x1 : d.At H) (x2 : e.At H) (x3 : Dc.like d e) (x4 : d.slim) (x5 : d.deep ≤ n) (x6 : d.size ≤ 900) (x7 : ∀ H', Same H H' → Q (.bl true) H') : spAlikeI n vs H Q u3_
inductive spPartsI (n : Nat) (vs : List V) (H : Hp) (Q : VK) (u3_ : XK) : Prop
  | mk (d : Dc) (x0 : vs = [d.val]) (x1 : d.At H) (x2 : d.deep ≤ n) (x3 : d.size ≤ 900) (x4 : ∀ (p : Addr) (H' : Hp), Same H H' → H p = none → H' p = some (.lst (d.parts.map Dc.val)) → Q (.ref p) H') : spPartsI n vs H Q u3_
inductive spStepsI (vs : List V) (H : Hp) (Q : VK) (u3_ : XK) : Prop
  | mk (d : Dc) (x0 : vs = [d.val]) (x1 : d.At H) (x2 : d.slim) (x3 : d.size ≤ 900) (x4 : ∀ (p : Addr) (l : List V) (H' : Hp), Same H H' → H p = none → H' p = some (.lst l) → d.StepsOf l → Q (.ref p) H') : spStepsI  vs H Q u3_
inductive spInnerI (vs : List V) (H : Hp) (Q : VK) (u3_ : XK) : Prop
  | mk (d : Dc) (x0 : vs = [d.val]) (x1 : d.At H) (x2 : d.slim) (x3 : d.size ≤ 900) (x4 : ∀ (p : Addr) (es : List Dc) (H' : Hp), Same H H' → H p = none → H' p = some (.lst (es.map Dc.val)) → es.Perm d.kids → Q (.ref p) H') : spInnerI  vs H Q u3_
inductive spSizeOfI (vs : List V) (H : Hp) (Q : VK) (u3_ : XK) : Prop
  | mk (d : Dc) (x0 : vs = [d.val]) (x1 : d.At H) (x2 : d.slim) (x3 : d.size ≤ 900) (x4 : ∀ H', Same H H' → Q (.int (d.size : Int)) H') : spSizeOfI  vs H Q u3_
inductive spIsDocI (vs : List V) (H : Hp) (Q : VK) (u3_ : XK) : Prop
  | mk (d : Dc) (x0 : vs = [d.val]) (x1 : d.At H) (x2 : d.ok) (x3 : d.slim) (x4 : d.size ≤ 900) (x5 : ∀ H', Same H H' → Q (.bl true) H') : spIsDocI  vs H Q u3_
def Dc.kindS : Dc → Str
  | .leaf (.str _) => "text"
  | .leaf _ => "number"
  | .row _ _ => "row"
  | .tab _ _ _ => "table"
inductive spKindI (vs : List V) (H : Hp) (Q : VK) (u3_ : XK) : Prop
  | mk (d : Dc) (x0 : vs = [d.val]) (x1 : d.At H) (x2 : Q (.str d.kindS) H) : spKindI  vs H Q u3_
inductive spPathsI (n : Nat) (vs : List V) (H : Hp) (Q : VK) (u3_ : XK) : Prop
  | mk (d : Dc) (t : Addr) (xs : List V) (x0 : vs = [d.val, .ref t]) (x1 : d.At H) (x2 : d.ok) (x3 : d.slim) (x4 : d.deep ≤ n) (x5 : H t = some (.tup xs)) (x6 : xs.length + d.size ≤ 1000) (x7 : ∀ (p : Addr) (ps : List Addr) (H' : Hp), Same H H' → H p = none → H' p = some (.lst (ps.map V.ref)) → ps.length = d.size → (∀ q ∈ ps, ∃ zs, H' q = some (.tup (xs ++ zs)) ∧ (d.sub zs).isSome = true) → Q (.ref p) H') : spPathsI n vs H Q u3_
end L2

set_option Elab.async false
set_option linter.all false
set_option maxRecDepth 100000
set_option maxHeartbeats 4000000
namespace L2
open PySem PySem.Spec PyProof.Rows
def back (a : Addr) (H H' : Hp) : Hp := fun b => if b = a then H a else H' b
theorem back_ne {a b : Addr} {H H' : Hp} (h : b ≠ a) : back a H H' b = H' b := if_neg h
theorem back_at {a : Addr} {H H' : Hp} : back a H H' a = H a := if_pos rfl
structure Frz (a : Addr) (o : Obj) (kvs : List (Key × V)) (H Hf : Hp) : Prop where
  at_ : Hf a = some (.frz o (.dK kvs))
  rd : SameR H Hf
  ne : ∀ b, b ≠ a → Hf b = H b
  rda : Rd H a (.dK kvs)
theorem Frz.free {a b : Addr} {o : Obj} {kvs : List (Key × V)} {H Hf : Hp} (F : Frz a o kvs H Hf) (h : Hf b = none) : H b = none ∧ b ≠ a := by
  have hb : b ≠ a := fun z => by rw [z, F.at_] at h; cases h
  rw [F.ne b hb] at h
  exact ⟨h, hb⟩
theorem Frz.back {a : Addr} {o : Obj} {kvs : List (Key × V)} {H Hf Hi : Hp} (F : Frz a o kvs H Hf) (s : Same Hf Hi) : Same H (back a H Hi) := fun b u e => by
  by_cases hb : b = a
  · subst hb; rw [back_at]; exact e
  · rw [back_ne hb]
    exact s b u (by rw [F.ne b hb]; exact e)
inductive tWalkEI (t : TE) (σ : St) (H : Hp) (Q : VK) : Prop
  | mk (a : _) (kvs : _) (x0 : Rd H a (.dK kvs)) (x1 : ∀ o Hf, Frz a o kvs H Hf → t σ Hf fun v H' => H' a = some (.frz o (.dK kvs)) ∧ Q v (back a H H')) : tWalkEI t σ H Q
inductive tWalkSI (t : TS) (D : Ends) (σ : St) (H : Hp) : Prop
  | mk (a : _) (kvs : _) (x0 : Rd H a (.dK kvs)) (x1 : ∀ o Hf, Frz a o kvs H Hf → t ⟨fun σ H' => H' a = some (.frz o (.dK kvs)) ∧ D.nx σ (back a H H'), fun v H' => H' a = some (.frz o (.dK kvs)) ∧ D.rt v (back a H H'), fun σ H' => H' a = some (.frz o (.dK kvs)) ∧ D.bk σ (back a H H'), fun σ H' => H' a = some (.frz o (.dK kvs)) ∧ D.ct σ (back a H H')⟩ σ Hf) : tWalkSI t D σ H
theorem Frz.of {a : Addr} {o : Obj} {kvs : List (Key × V)} {H : Hp} (e : H a = some (.dK kvs)) : Frz a o kvs H (upd H a (.frz o (.dK kvs))) := ⟨upd_same, SameR.frz e, fun b hb => upd_ne hb, .inl e⟩
theorem Frz.same {a : Addr} {o : Obj} {kvs : List (Key × V)} {H : Hp} (e : H a = some (.frz o (.dK kvs))) : Frz a o kvs H H := ⟨e, fun _ _ r => r, fun _ _ => rfl, .inr ⟨o, e⟩⟩
section
variable {X : Cx}
end
structure FreshL (H H' : Hp) (es : List Dc) : Prop where
  same : Same H H'
  at_ : Dc.AtL H' es
  nd : (Dc.addrsL es).Nodup
  own : ∀ a ∈ Dc.addrsL es, ∀ o u, H' a ≠ some (.frz o u)
  new : ∀ a ∈ Dc.addrsL es, H a = none
theorem FreshL.nil {H H' : Hp} (s : Same H H') : FreshL H H' [] := ⟨s, trivial, .nil, fun a h => (nomatch h), fun a h => (nomatch h)⟩
theorem Dc.thereL {H : Hp} {es : List Dc} {b : Addr} (h : Dc.AtL H es) (hb : b ∈ Dc.addrsL es) : H b ≠ none := by
  induction es with
  | nil => cases hb
  | cons x r ih =>
    simp only [Dc.AtL] at h
    simp only [Dc.addrsL, List.mem_append] at hb
    rcases hb with hb | hb
    · exact Dc.there h.1 hb
    · exact ih h.2 hb
theorem FreshL.frame {H H1 H2 : Hp} {es : List Dc} (F : FreshL H H1 es) (s : Same H H2) (f : ∀ a ∈ Dc.addrsL es, ∀ o, H1 a = some o → H2 a = some o) : FreshL H H2 es :=
  ⟨s, Dc.atL_frame es f F.at_, F.nd, fun a ha => frz_up (Dc.thereL F.at_ ha) (F.own a ha) (f a ha), F.new⟩
theorem Fresh.frame {H H1 H2 : Hp} {d : Dc} (F : Fresh H H1 d) (s : Same H H2) (f : ∀ a ∈ d.addrs, ∀ o, H1 a = some o → H2 a = some o) : Fresh H H2 d :=
  ⟨s, Dc.at_frame d f F.at_, F.nd, fun a ha => frz_up (Dc.there F.at_ ha) (F.own a ha) (f a ha), F.new⟩
theorem FreshL.up {H H1 H2 : Hp} {es : List Dc} (F : FreshL H H1 es) (s : Same H1 H2) : FreshL H H2 es := F.frame (F.same.trans s) fun a _ => s a
theorem FreshL.snoc {H H2 H3 : Hp} {es : List Dc} {d : Dc} (F : FreshL H H2 es) (f : Fresh H2 H3 d) : FreshL H H3 (es ++ [d]) := by
  have F3 := F.up f.same
  have ea : Dc.addrsL (es ++ [d]) = Dc.addrsL es ++ d.addrs := by rw [Dc.addrsL_append]; simp [Dc.addrsL]
  refine ⟨F3.same, (Dc.AtL_append _ _).mpr ⟨F3.at_, by simp only [Dc.AtL]; exact ⟨f.at_, trivial⟩⟩, ?_, fun a ha => ?_, fun a ha => ?_⟩
  · rw [ea]
    refine List.nodup_append.mpr ⟨F.nd, f.nd, fun a ha b hb e => ?_⟩
    subst e
    exact Dc.thereL F.at_ ha (f.new a hb)
  · rw [ea] at ha
    rcases List.mem_append.mp ha with ha | ha
    · exact F3.own a ha
    · exact f.own a ha
  · rw [ea] at ha
    rcases List.mem_append.mp ha with ha | ha
    · exact F.new a ha
    · exact F.same.free (f.new a ha)
theorem FreshL.out {H H' : Hp} {es : List Dc} {D : Addr} {o : HO} (F : FreshL H H' es) (h : H D = some o) : D ∉ Dc.addrsL es := fun z => by
  have := F.new D z
  rw [h] at this
  cases this
theorem FreshL.row {H H' : Hp} {es : List Dc} {D : Addr} (F : FreshL H H' es) (hD : H D = none) (nD : D ∉ Dc.addrsL es) (e : H' D = some (.lst (es.map Dc.val))) : Fresh H H' (.row D es) := by
  refine ⟨F.same, by simp only [Dc.At]; exact ⟨.inl e, F.at_⟩, ?_, fun a ha => ?_, fun a ha => ?_⟩
  · simp only [Dc.addrs]; exact List.nodup_cons.mpr ⟨nD, F.nd⟩
  · simp only [Dc.addrs, List.mem_cons] at ha
    rcases ha with rfl | ha
    · intro o u z; rw [e] at z; cases z
    · exact F.own a ha
  · simp only [Dc.addrs, List.mem_cons] at ha
    rcases ha with rfl | ha
    · exact hD
    · exact F.new a ha
theorem FreshL.tab {H H' : Hp} {es : List Dc} {ks : List Str} {D : Addr} (F : FreshL H H' es) (hD : H D = none) (nD : D ∉ Dc.addrsL es) (l : ks.length = es.length) (nk : ks.Nodup) (e : H' D = some (.dK (Dc.kvs ks es))) : Fresh H H' (.tab D ks es) := by
  refine ⟨F.same, by simp only [Dc.At]; exact ⟨.inl e, l, nk, F.at_⟩, ?_, fun a ha => ?_, fun a ha => ?_⟩
  · simp only [Dc.addrs]; exact List.nodup_cons.mpr ⟨nD, F.nd⟩
  · simp only [Dc.addrs, List.mem_cons] at ha
    rcases ha with rfl | ha
    · intro o u z; rw [e] at z; cases z
    · exact F.own a ha
  · simp only [Dc.addrs, List.mem_cons] at ha
    rcases ha with rfl | ha
    · exact hD
    · exact F.new a ha
namespace Dc
theorem zip_at {nm : Str} {x : Dc} : ∀ (ks : List Str) (xs : List Dc) (i : Nat), ks.Nodup → ks[i]? = some nm → xs[i]? = some x → (ks.zip xs).lookup nm = some x
  | [], _, _, _, h, _ => by simp at h
  | y :: r, [], _, _, _, h => by simp at h
  | y :: r, z :: t, 0, _, h1, h2 => by simp at h1 h2; subst h1 h2; simp
  | y :: r, z :: t, i + 1, nd, h1, h2 => by
    obtain ⟨n1, n2⟩ := List.nodup_cons.mp nd
    have h1' : r[i]? = some nm := by simpa using h1
    have ne : nm ≠ y := fun z => n1 (z ▸ List.mem_of_getElem? h1')
    have : (nm == y) = false := by simpa using ne
    simp only [List.zip_cons_cons, List.lookup_cons, this]
    exact zip_at r t i n2 h1' (by simpa using h2)
end Dc
end L2

set_option Elab.async false
set_option linter.all false
set_option maxRecDepth 100000
set_option maxHeartbeats 4000000
namespace L2
open PySem PySem.Spec PyProof.Rows
def wholeV : V → Bool
  | .int _ => true
  | _ => false
def nameV : V → Bool
  | .str x => nameB x
  | _ => false
def Short (v : V) : Prop := ∀ x, v = .str x → x.length ≤ 1000
inductive spWholeI (vs : List V) (H : Hp) (Q : VK) (u3_ : XK) : Prop
  | mk (v : _) (T : _) (x0 : vs = [v]) (x1 : TyN H v T) (x2 : Q (.bl (wholeV v)) H) : spWholeI  vs H Q u3_
inductive spLettersI (vs : List V) (H : Hp) (Q : VK) (u3_ : XK) : Prop
  | mk (x : Str) (x0 : vs = [.str x]) (x1 : x.length ≤ 1000) (x2 : ∀ H', Same H H' → Q (.bl ((sgn x).all isL)) H') : spLettersI  vs H Q u3_
inductive spNameI (vs : List V) (H : Hp) (Q : VK) (u3_ : XK) : Prop
  | mk (v : _) (T : _) (x0 : vs = [v]) (x1 : TyN H v T) (x2 : Short v) (x3 : ∀ H', Same H H' → Q (.bl (nameV v)) H') : spNameI  vs H Q u3_
inductive spSoundI (vs : List V) (H : Hp) (Q : VK) (u3_ : XK) : Prop
  | mk (d : Dc) (x0 : vs = [d.val]) (x1 : d.At H) (x2 : d.ok) (x3 : d.size ≤ 900) (x4 : ∀ H', Same H H' → Q (.bl true) H') : spSoundI  vs H Q u3_
end L2

set_option Elab.async false
set_option linter.all false
set_option maxRecDepth 100000
set_option maxHeartbeats 4000000
namespace L2
open PySem PySem.Spec PyProof.Rows
def OutC (H Hi : Hp) (c : V) : Dc → Prop
  | .leaf v => c = v ∧ Dc.Lf v
  | .row _ xs => ∃ a, c = .ref a ∧ Hi a = some (.lst (xs.map Dc.val)) ∧ H a = none
  | .tab _ ks xs => ∃ a, c = .ref a ∧ Hi a = some (.dK (Dc.kvs ks xs)) ∧ H a = none
def rootOf (p : V × Dc) : Option Addr := match p.1 with
  | .ref a => some a
  | _ => none
abbrev roots (ps : List (V × Dc)) : List Addr := ps.filterMap rootOf
theorem roots_mem {ps : List (V × Dc)} {c : Addr} : c ∈ roots ps ↔ ∃ p ∈ ps, p.1 = .ref c := by
  rw [List.mem_filterMap]
  constructor
  · rintro ⟨p, hp, e⟩
    refine ⟨p, hp, ?_⟩
    unfold rootOf at e
    split at e
    · rename_i a h; cases e; exact h
    · cases e
  · rintro ⟨p, hp, e⟩
    exact ⟨p, hp, by unfold rootOf; rw [e]⟩
theorem roots_append (ps qs : List (V × Dc)) : roots (ps ++ qs) = roots ps ++ roots qs := List.filterMap_append ..
def DoneL : List (V × Dc) → List Dc → Prop
  | [], [] => True
  | p :: ps, e :: es => e.val = p.1 ∧ Dc.like p.2 e ∧ DoneL ps es
  | _, _ => False
theorem DoneL.split : ∀ {ps qs : List (V × Dc)} {es : List Dc}, DoneL (ps ++ qs) es → ∃ er ec, es = er ++ ec ∧ DoneL ps er ∧ DoneL qs ec
  | [], qs, es, h => ⟨[], es, rfl, trivial, h⟩
  | p :: ps, qs, [], h => by simp [DoneL] at h
  | p :: ps, qs, e :: es, h => by
    simp only [List.cons_append, DoneL] at h
    obtain ⟨er, ec, rfl, h1, h2⟩ := DoneL.split h.2.2
    exact ⟨e :: er, ec, rfl, by simp only [DoneL]; exact ⟨h.1, h.2.1, h1⟩, h2⟩
theorem DoneL.app : ∀ {ps qs : List (V × Dc)} {er ec : List Dc}, DoneL ps er → DoneL qs ec → DoneL (ps ++ qs) (er ++ ec)
  | [], qs, [], ec, _, h => h
  | [], _, _ :: _, _, h, _ => by simp [DoneL] at h
  | _ :: _, _, [], _, h, _ => by simp [DoneL] at h
  | p :: ps, qs, e :: er, ec, h, h' => by
    simp only [DoneL, List.cons_append] at h ⊢
    exact ⟨h.1, h.2.1, DoneL.app h.2.2 h'⟩
theorem DoneL.vals : ∀ {ps : List (V × Dc)} {es : List Dc}, DoneL ps es → es.map Dc.val = ps.map (·.1)
  | [], [], _ => rfl
  | [], _ :: _, h => by simp [DoneL] at h
  | _ :: _, [], h => by simp [DoneL] at h
  | p :: ps, e :: es, h => by
    simp only [DoneL] at h
    simp only [List.map_cons, h.1, DoneL.vals h.2.2]
structure CpInv (H Hi : Hp) (L : Addr) (tv : V) (d : Dc) (ps : List (V × Dc)) : Prop where
  same : Same H Hi
  nL : H L = none
  eL : Hi L = some (.lst (ps.map (·.1)))
  out : ∀ p ∈ ps, OutC H Hi p.1 p.2
  src : ∀ p ∈ ps, p.2.At H ∧ p.2.slim
  nd : (roots ps).Nodup
  nLr : L ∉ roots ps
  wand : ∀ (es : List Dc) (H' : Hp), DoneL ps es → FreshL H H' es → (∀ c ∈ Dc.addrsL es, Hi c = none ∨ c ∈ roots ps) → (∀ b o, b ≠ L → b ∉ roots ps → Hi b = some o → H' b = some o) → ∃ e : Dc, e.val = tv ∧ Dc.like d e ∧ Fresh H H' e
theorem OutC.root {H Hi : Hp} {p : V × Dc} {c : Addr} (o : OutC H Hi p.1 p.2) (e : p.1 = .ref c) : Hi c ≠ none ∧ H c = none ∧ ∀ ob u, Hi c ≠ some (.frz ob u) := by
  obtain ⟨v, d⟩ := p
  simp only at e
  subst e
  cases d with
  | leaf v =>
    obtain ⟨rfl, h⟩ := (show V.ref c = v ∧ Dc.Lf v from o)
    rcases h with ⟨i, h⟩ | ⟨x, h, _⟩ <;> cases h
  | row b xs =>
    obtain ⟨a, e, h1, h2⟩ := (show ∃ a, V.ref c = .ref a ∧ Hi a = some (.lst (xs.map Dc.val)) ∧ H a = none from o)
    cases e
    exact ⟨by rw [h1]; simp, h2, fun ob u z => by rw [h1] at z; cases z⟩
  | tab b ks xs =>
    obtain ⟨a, e, h1, h2⟩ := (show ∃ a, V.ref c = .ref a ∧ Hi a = some (.dK (Dc.kvs ks xs)) ∧ H a = none from o)
    cases e
    exact ⟨by rw [h1]; simp, h2, fun ob u z => by rw [h1] at z; cases z⟩
theorem OutC.up {H Hi H2 : Hp} {c : V} {d : Dc} (o : OutC H Hi c d) (k : ∀ a, c = .ref a → ∀ u, Hi a = some u → H2 a = some u) : OutC H H2 c d := by
  cases d with
  | leaf v => exact o
  | row b xs => obtain ⟨a, e, h1, h2⟩ := o; exact ⟨a, e, k a e _ h1, h2⟩
  | tab b ks xs => obtain ⟨a, e, h1, h2⟩ := o; exact ⟨a, e, k a e _ h1, h2⟩
theorem CpInv.step {H Hi H2 : Hp} {L a : Addr} {tv : V} {d node : Dc} {ps : List (V × Dc)} (C : CpInv H Hi L tv d (ps ++ [(.ref a, node)])) (cp : List (V × Dc))
    (keep : ∀ b o, b ≠ a → b ≠ L → Hi b = some o → H2 b = some o) (eL : H2 L = some (.lst ((ps ++ cp).map (·.1)))) (out : ∀ p ∈ cp, OutC H H2 p.1 p.2) (src : ∀ p ∈ cp, p.2.At H ∧ p.2.slim) (rn : (roots cp).Nodup) (rf : ∀ c ∈ roots cp, Hi c = none)
    (ha2 : H2 a ≠ none) (own : ∀ ob u, H2 a ≠ some (.frz ob u))
    (build : ∀ (ec : List Dc) (H' : Hp), DoneL cp ec → Dc.AtL H' ec → H' a = H2 a → ∃ e : Dc, e.val = .ref a ∧ Dc.like node e ∧ e.At H' ∧ e.addrs.Perm (a :: Dc.addrsL ec)) : CpInv H H2 L tv d (ps ++ cp) := by
  have rt : roots (ps ++ [(V.ref a, node)]) = roots ps ++ [a] := by rw [roots_append]; rfl
  have nd := C.nd
  rw [rt] at nd
  obtain ⟨nd1, _, nd3⟩ := List.nodup_append.mp nd
  have nLr := C.nLr
  rw [rt] at nLr
  have aL : a ≠ L := fun z => nLr (by rw [← z]; simp)
  have har : a ∉ roots ps := fun z => nd3 a z a (by simp) rfl
  have Ha := (C.out (.ref a, node) (by simp)).root rfl
  have pr : ∀ c ∈ roots ps, c ≠ a ∧ c ≠ L ∧ Hi c ≠ none := fun c hc => by
    obtain ⟨p, hp, e⟩ := roots_mem.mp hc
    refine ⟨fun z => har (by rw [← z]; exact hc), fun z => nLr (by rw [← z]; simp [hc]), ?_⟩
    exact ((C.out p (by simp [hp])).root e).1
  refine ⟨fun b o e => ?_, C.nL, eL, fun p hp => ?_, fun p hp => ?_, ?_, ?_, fun es H' dn fr z kp => ?_⟩
  · exact keep b o (ne_of_none e Ha.2.1) (ne_of_none e C.nL) (C.same b o e)
  · rcases List.mem_append.mp hp with hp | hp
    · refine (C.out p (by simp [hp])).up fun c e u h => ?_
      have := pr c (roots_mem.mpr ⟨p, hp, e⟩)
      exact keep c u this.1 this.2.1 h
    · exact out p hp
  · rcases List.mem_append.mp hp with hp | hp
    · exact C.src p (by simp [hp])
    · exact src p hp
  · rw [roots_append]
    refine List.nodup_append.mpr ⟨nd1, rn, fun x hx y hy e => ?_⟩
    subst e
    exact (pr x hx).2.2 (rf x hy)
  · rw [roots_append]
    intro h
    rcases List.mem_append.mp h with h | h
    · exact nLr (by simp [h])
    · have := rf L h
      rw [C.eL] at this
      cases this
  · obtain ⟨er, ec, rfl, d1, d2⟩ := dn.split
    have aN : a ∉ roots (ps ++ cp) := by
      rw [roots_append]
      intro h
      rcases List.mem_append.mp h with h | h
      · exact har h
      · exact Ha.1 (rf a h)
    have H'a : H' a = H2 a := by
      cases e : H2 a with
      | none => exact absurd e ha2
      | some o => exact kp a o aL aN e
    obtain ⟨at1, at2⟩ := (Dc.AtL_append _ _).mp fr.at_
    obtain ⟨e, ev, el, ea, ep⟩ := build ec H' d2 at2 H'a
    have aout : a ∉ Dc.addrsL (er ++ ec) := fun h => by
      rcases z a h with h | h
      · exact ha2 h
      · exact aN h
    have eadd : Dc.addrsL (er ++ [e]) = Dc.addrsL er ++ e.addrs := by rw [Dc.addrsL_append]; simp [Dc.addrsL]
    have mem : ∀ c, c ∈ Dc.addrsL (er ++ [e]) → c = a ∨ c ∈ Dc.addrsL (er ++ ec) := fun c hc => by
      rw [eadd] at hc
      rw [Dc.addrsL_append]
      rcases List.mem_append.mp hc with hc | hc
      · exact .inr (List.mem_append_left _ hc)
      · rcases List.mem_cons.mp (ep.mem_iff.mp hc) with hc | hc
        · exact .inl hc
        · exact .inr (List.mem_append_right _ hc)
    have fr2 : FreshL H H' (er ++ [e]) := by
      refine ⟨fr.same, (Dc.AtL_append _ _).mpr ⟨at1, by simp only [Dc.AtL]; exact ⟨ea, trivial⟩⟩, ?_, fun c hc => ?_, fun c hc => ?_⟩
      · have n0 := fr.nd
        rw [Dc.addrsL_append] at n0 aout
        have : (Dc.addrsL er ++ (a :: Dc.addrsL ec)).Nodup := by
          obtain ⟨x1, x2, x3⟩ := List.nodup_append.mp n0
          refine List.nodup_append.mpr ⟨x1, List.nodup_cons.mpr ⟨fun h => aout (List.mem_append_right _ h), x2⟩, fun x hx y hy exy => ?_⟩
          subst exy
          rcases List.mem_cons.mp hy with hy | hy
          · exact aout (List.mem_append_left _ (by rw [← hy]; exact hx))
          · exact x3 x hx x hy rfl
        rw [eadd]
        exact ((List.Perm.append_left _ ep).nodup_iff).mpr this
      · rcases mem c hc with rfl | hc
        · intro ob u h; rw [H'a] at h; exact own ob u h
        · exact fr.own c hc
      · rcases mem c hc with rfl | hc
        · exact Ha.2.1
        · exact fr.new c hc
    refine C.wand (er ++ [e]) H' (d1.app (by simp only [DoneL]; exact ⟨ev, el, trivial⟩)) fr2 (fun c hc => ?_) (fun b o hb hr h => ?_)
    · rw [rt]
      rcases mem c hc with rfl | hc
      · exact .inr (by simp)
      · rcases z c hc with h | h
        · left
          cases q : Hi c with
          | none => rfl
          | some o =>
            have cna : c ≠ a := fun w => ha2 (by rw [← w]; exact h)
            have cnL : c ≠ L := fun w => by rw [w, eL] at h; cases h
            rw [keep c o cna cnL q] at h
            cases h
        · rw [roots_append] at h
          rcases List.mem_append.mp h with h | h
          · exact .inr (by simp [h])
          · exact .inl (rf c h)
    · rw [rt] at hr
      have hra : b ≠ a := fun w => hr (by simp [w])
      refine kp b o hb ?_ (keep b o hra hb h)
      rw [roots_append]
      intro w
      rcases List.mem_append.mp w with w | w
      · exact hr (by simp [w])
      · rw [rf b w] at h; cases h
theorem CpInv.start {H Hi : Hp} {L : Addr} {d : Dc} {tv : V} (s : Same H Hi) (nL : H L = none) (eL : Hi L = some (.lst [tv])) (o : OutC H Hi tv d) (h : d.At H) (sl : d.slim) (ne : tv ≠ .ref L) : CpInv H Hi L tv d [(tv, d)] := by
  refine ⟨s, nL, eL, fun p hp => by rw [List.mem_singleton.mp hp]; exact o, fun p hp => by rw [List.mem_singleton.mp hp]; exact ⟨h, sl⟩, ?_, ?_, fun es H' dn fr z kp => ?_⟩
  · cases tv <;> first | exact List.nodup_nil | exact List.nodup_cons.mpr ⟨(fun h => nomatch h), List.nodup_nil⟩
  · intro hh
    obtain ⟨p, hp, e⟩ := roots_mem.mp hh
    rw [List.mem_singleton.mp hp] at e
    exact ne e
  · cases es with
    | nil => simp [DoneL] at dn
    | cons e r =>
      cases r with
      | cons _ _ => simp [DoneL] at dn
      | nil =>
        simp only [DoneL] at dn
        have ea : Dc.addrsL [e] = e.addrs := by simp [Dc.addrsL]
        have fa := fr.at_
        simp only [Dc.AtL] at fa
        have fn := fr.nd
        rw [ea] at fn
        exact ⟨e, dn.1, dn.2.1, fr.same, fa.1, fn, fun a ha => fr.own a (by rw [ea]; exact ha), fun a ha => fr.new a (by rw [ea]; exact ha)⟩
theorem CpInv.done {H Hi : Hp} {L : Addr} {d : Dc} {tv : V} (C : CpInv H Hi L tv d []) : ∃ e : Dc, e.val = tv ∧ Dc.like d e ∧ Fresh H Hi e :=
  C.wand [] Hi trivial (.nil C.same) (fun c hc => (nomatch hc)) fun b o _ _ h => h
theorem CpInv.leaf {H Hi H2 : Hp} {L : Addr} {d : Dc} {tv v : V} {ps : List (V × Dc)} (C : CpInv H Hi L tv d (ps ++ [(v, .leaf v)])) (keep : ∀ b o, b ≠ L → Hi b = some o → H2 b = some o) (eL : H2 L = some (.lst (ps.map (·.1)))) : CpInv H H2 L tv d ps := by
  have lv : Dc.Lf v := (show v = v ∧ Dc.Lf v from C.out (v, .leaf v) (by simp)).2
  have rt : roots (ps ++ [(v, Dc.leaf v)]) = roots ps := by
    rw [roots_append]
    rcases lv with ⟨i, rfl⟩ | ⟨x, rfl, _⟩ <;> simp [roots, rootOf]
  have nd := C.nd
  have nLr := C.nLr
  rw [rt] at nd nLr
  refine ⟨fun b o e => keep b o (ne_of_none e C.nL) (C.same b o e), C.nL, eL, fun p hp => ?_, fun p hp => C.src p (by simp [hp]), nd, nLr, fun es H' dn fr z kp => ?_⟩
  · refine (C.out p (by simp [hp])).up fun c e u h => keep c u (fun w => nLr ?_) h
    rw [← w]
    exact roots_mem.mpr ⟨p, hp, e⟩
  · have ea : Dc.addrsL (es ++ [.leaf v]) = Dc.addrsL es := by rw [Dc.addrsL_append]; simp [Dc.addrsL, Dc.addrs]
    refine C.wand (es ++ [.leaf v]) H' (dn.app (by simp [DoneL, Dc.val, Dc.like])) ⟨fr.same, (Dc.AtL_append _ _).mpr ⟨fr.at_, by simp only [Dc.AtL, Dc.At]; exact ⟨lv, trivial⟩⟩, by rw [ea]; exact fr.nd, by rw [ea]; exact fr.own, by rw [ea]; exact fr.new⟩ (fun c hc => ?_) (fun b o hb hr h => ?_)
    · rw [ea] at hc
      rw [rt]
      rcases z c hc with h | h
      · left
        cases q : Hi c with
        | none => rfl
        | some o =>
          have cnL : c ≠ L := fun w => by rw [w, eL] at h; cases h
          rw [keep c o cnL q] at h
          cases h
      · exact .inr h
    · rw [rt] at hr
      exact kp b o hb hr (keep b o hb h)
def OuterQ (H : Hp) (Q : VK) : Dc → Prop
  | .leaf v => Q v H
  | .row _ xs => ∀ p, H p = none → Q (.ref p) (upd H p (.lst (xs.map Dc.val)))
  | .tab _ ks xs => ∀ p, H p = none → Q (.ref p) (upd H p (.dK (Dc.kvs ks xs)))
inductive spOuterI (vs : List V) (H : Hp) (Q : VK) (u3_ : XK) : Prop
  | mk (d : Dc) (x0 : vs = [d.val]) (x1 : d.At H) (x2 : OuterQ H Q d) : spOuterI  vs H Q u3_
inductive spCopyOfI (vs : List V) (H : Hp) (Q : VK) (u3_ : XK) : Prop
  | mk (d : Dc) (x0 : vs = [d.val]) (x1 : d.At H) (x2 : d.slim) (x3 : d.size ≤ 900) (x4 : ∀ (d' : Dc) (H' : Hp), Fresh H H' d' → Dc.like d d' → Q d'.val H') : spCopyOfI  vs H Q u3_
theorem OuterQ.of {H0 H : Hp} {Q : VK} {d : Dc} (s : Same H0 H) (h : d.At H) (k : ∀ tv Hi, Same H Hi → OutC H0 Hi tv d → (∀ a, tv = .ref a → H a = none) → Q tv Hi) : OuterQ H Q d := by
  cases d with
  | leaf v =>
    refine k v H (Same.refl H) ⟨rfl, h⟩ fun a e => ?_
    rcases (show Dc.Lf v from h) with ⟨i, rfl⟩ | ⟨x, rfl, _⟩ <;> cases e
  | row b xs => exact fun p hp => k _ _ (Same.new hp) ⟨p, rfl, upd_same, s.free hp⟩ fun a e => by cases e; exact hp
  | tab b ks xs => exact fun p hp => k _ _ (Same.new hp) ⟨p, rfl, upd_same, s.free hp⟩ fun a e => by cases e; exact hp
end L2
namespace L2
open PySem PySem.Spec PyProof.Rows
theorem zip_snoc {cs : List V} {xs : List Dc} {c : V} {x : Dc} {i : Nat} (l : cs.length = i) (hx : xs[i]? = some x) : (cs ++ [c]).zip xs = cs.zip xs ++ [(c, x)] := by
  induction cs generalizing xs i with
  | nil =>
    cases xs with
    | nil => simp at hx
    | cons y t =>
      simp at l
      subst l
      simp at hx
      subst hx
      simp
  | cons z r ih =>
    cases xs with
    | nil => simp at hx
    | cons y t =>
      cases i with
      | zero => simp at l
      | succ i =>
        simp only [List.cons_append, List.zip_cons_cons]
        rw [ih (by simpa using l) (by simpa using hx)]
end L2

set_option Elab.async false
set_option linter.all false
set_option maxRecDepth 100000
set_option maxHeartbeats 4000000
namespace L2
open PySem PySem.Spec PyProof.Rows
namespace Dc
inductive Eqv : Dc → Dc → Prop where
  | leaf (v : V) : Eqv (leaf v) (leaf v)
  | row {a b : Addr} {xs ys : List Dc} (l : xs.length = ys.length) (h : ∀ (i : Nat) x y, xs[i]? = some x → ys[i]? = some y → Eqv x y) : Eqv (row a xs) (row b ys)
  | tab {a b : Addr} {ks ls : List Str} {xs ys : List Dc} (p : ks.Perm ls) (h : ∀ k x y, (ks.zip xs).lookup k = some x → (ls.zip ys).lookup k = some y → Eqv x y) : Eqv (tab a ks xs) (tab b ls ys)
theorem zip_like {ks : List Str} : ∀ {xs ys : List Dc}, likeL xs ys → ∀ {k : Str} {x y : Dc}, (ks.zip xs).lookup k = some x → (ks.zip ys).lookup k = some y → ∃ i : Nat, xs[i]? = some x ∧ ys[i]? = some y := by
  induction ks with
  | nil => intro xs ys _ k x y h; simp at h
  | cons z r ih =>
    intro xs ys hl k x y h1 h2
    cases xs with
    | nil => simp at h1
    | cons x0 xs =>
      cases ys with
      | nil => simp at h2
      | cons y0 ys =>
        simp only [likeL] at hl
        simp only [List.zip_cons_cons, List.lookup_cons] at h1 h2
        by_cases e : k = z
        · subst e
          simp at h1 h2
          exact ⟨0, by simp [h1], by simp [h2]⟩
        · have : (k == z) = false := by simpa using e
          rw [this] at h1 h2
          obtain ⟨i, g1, g2⟩ := ih hl.2 h1 h2
          exact ⟨i + 1, by simpa using g1, by simpa using g2⟩
mutual
theorem like_eqv : ∀ d e : Dc, like d e → Eqv d e
  | leaf v, e, h => by
    cases e with
    | leaf w => have : v = w := by simpa [like] using h
                subst this; exact .leaf v
    | _ => simp [like] at h
  | row a xs, e, h => by
    cases e with
    | row b ys =>
      simp only [like] at h
      exact .row (likeL_length h) (likeL_eqv xs ys h)
    | _ => simp [like] at h
  | tab a ks xs, e, h => by
    cases e with
    | tab b ls ys =>
      simp only [like] at h
      obtain ⟨rfl, h⟩ := h
      refine .tab (.refl _) fun k x y h1 h2 => ?_
      obtain ⟨i, g1, g2⟩ := zip_like h h1 h2
      exact likeL_eqv xs ys h i x y g1 g2
    | _ => simp [like] at h
theorem likeL_eqv : ∀ xs ys : List Dc, likeL xs ys → ∀ (i : Nat) x y, xs[i]? = some x → ys[i]? = some y → Eqv x y
  | [], _, _, i, x, y, h, _ => by simp at h
  | _ :: _, [], h, _, _, _, _, _ => by simp [likeL] at h
  | x0 :: r, y0 :: t, h, 0, x, y, h1, h2 => by
    simp only [likeL] at h
    simp at h1 h2
    subst h1 h2
    exact like_eqv _ _ h.1
  | x0 :: r, y0 :: t, h, i + 1, x, y, h1, h2 => by
    simp only [likeL] at h
    exact likeL_eqv r t h.2 i x y (by simpa using h1) (by simpa using h2)
end
theorem Eqv.refl (d : Dc) : Eqv d d := like_eqv d d (like_refl d)
theorem Eqv.symm {d e : Dc} (h : Eqv d e) : Eqv e d := by
  induction h with
  | leaf v => exact .leaf v
  | row l _ ih => exact .row l.symm fun i x y h1 h2 => ih i y x h2 h1
  | tab p _ ih => exact .tab p.symm fun k x y h1 h2 => ih k y x h2 h1
inductive Wf : Dc → Prop where
  | leaf (v : V) : Wf (leaf v)
  | row {a : Addr} {xs : List Dc} (h : ∀ x ∈ xs, Wf x) : Wf (row a xs)
  | tab {a : Addr} {ks : List Str} {xs : List Dc} (l : ks.length = xs.length) (n : ks.Nodup) (h : ∀ x ∈ xs, Wf x) : Wf (tab a ks xs)
mutual
theorem at_wf {H : Hp} : ∀ d : Dc, d.At H → d.Wf
  | leaf v, _ => .leaf v
  | row a xs, h => by simp only [At] at h; exact .row (atL_wf xs h.2)
  | tab a ks xs, h => by simp only [At] at h; exact .tab h.2.1 h.2.2.1 (atL_wf xs h.2.2.2)
theorem atL_wf {H : Hp} : ∀ xs : List Dc, AtL H xs → ∀ x ∈ xs, x.Wf
  | [], _, x, hx => nomatch hx
  | y :: r, h, x, hx => by
    simp only [AtL] at h
    have h1 := at_wf y h.1
    have h2 := atL_wf r h.2
    rcases List.mem_cons.mp hx with e | hx
    · rw [e]; exact h1
    · exact h2 x hx
end
theorem Eqv.trans {d e f : Dc} (we : e.Wf) (h : Eqv d e) (h' : Eqv e f) : Eqv d f := by
  induction h generalizing f with
  | leaf v => exact h'
  | @row a b xs ys l hx ih =>
    cases h' with
    | @row _ c _ zs l' hy =>
      cases we with
      | row wy =>
        refine .row (l.trans l') fun i x z h1 h2 => ?_
        obtain ⟨y, h3⟩ : ∃ y, ys[i]? = some y := ⟨_, List.getElem?_eq_getElem (by rw [← l]; exact (List.getElem?_eq_some_iff.mp h1).1)⟩
        exact ih i x y h1 h3 (wy y (List.mem_of_getElem? h3)) (hy i y z h3 h2)
  | @tab a b ks ls xs ys p hx ih =>
    cases h' with
    | @tab _ c _ ms _ zs p' hy =>
      cases we with
      | tab wl wn wy =>
        refine .tab (p.trans p') fun k x z h1 h2 => ?_
        obtain ⟨y, h3, hm⟩ := lookup_of_mem wl (p.mem_iff.mp (mem_zip_lookup h1).1)
        exact ih k x y h1 h3 (wy y hm) (hy k y z h3 h2)
theorem szAt_map {ks : List Str} {xs : List Dc} (h : ks.length = xs.length) (n : ks.Nodup) {k : Str} {x : Dc} (e : (ks.zip xs).lookup k = some x) : szAt ks xs k = x.size := by simp [szAt, e]
theorem Eqv.size {d e : Dc} (wd : d.Wf) (we : e.Wf) (h : Eqv d e) : d.size = e.size := by
  induction h with
  | leaf v => rfl
  | @row a b xs ys l hx ih =>
    cases wd with
    | row wx =>
      cases we with
      | row wy =>
        simp only [Dc.size]
        congr 1
        have gen : ∀ (xs ys : List Dc), xs.length = ys.length → (∀ (i : Nat) x y, xs[i]? = some x → ys[i]? = some y → x.size = y.size) → sizeL xs = sizeL ys := by
          intro xs
          induction xs with
          | nil => intro ys h _; cases ys with | nil => rfl | cons _ _ => simp at h
          | cons x r ih =>
            intro ys h hh
            cases ys with
            | nil => simp at h
            | cons y t =>
              simp only [sizeL]
              rw [hh 0 x y rfl rfl, ih t (by simpa using h) fun i a b h1 h2 => hh (i + 1) a b (by simpa using h1) (by simpa using h2)]
        exact gen xs ys l fun i x y h1 h2 => ih i x y h1 h2 (wx x (List.mem_of_getElem? h1)) (wy y (List.mem_of_getElem? h2))
  | @tab a b ks ls xs ys p hx ih =>
    cases wd with
    | tab wl wn wx =>
      cases we with
      | tab wl' wn' wy =>
        simp only [Dc.size]
        congr 1
        rw [← szAt_perm wl wn p.symm, ← szAt_sum wl' wn']
        congr 1
        refine List.map_congr_left fun k hk => ?_
        obtain ⟨y, h2, hm2⟩ := lookup_of_mem wl' hk
        obtain ⟨x, h1, hm1⟩ := lookup_of_mem wl (p.mem_iff.mpr hk)
        rw [szAt_map wl wn h1, szAt_map wl' wn' h2]
        exact ih k x y h1 h2 (wx x hm1) (wy y hm2)
def ix (ks : List Str) (k : Str) : Nat := ks.findIdx (· == k)
theorem ix_get {ks : List Str} {k : Str} (h : k ∈ ks) : ks[ix ks k]? = some k := by
  have hl : ix ks k < ks.length := List.findIdx_lt_length_of_exists ⟨k, h, by simp⟩
  rw [List.getElem?_eq_getElem hl]
  have h2 : (ks[ix ks k] == k) = true := List.findIdx_getElem (w := hl)
  exact congrArg some (eq_of_beq h2)
theorem lookup_ix {ks : List Str} {xs : List Dc} {k : Str} {x : Dc} (l : ks.length = xs.length) (n : ks.Nodup) (h : (ks.zip xs).lookup k = some x) : xs[ix ks k]? = some x := by
  have hk := (mem_zip_lookup h).1
  have e := ix_get hk
  have hi := (List.getElem?_eq_some_iff.mp e).1
  obtain ⟨y, hy⟩ : ∃ y, xs[ix ks k]? = some y := ⟨_, List.getElem?_eq_getElem (by rw [← l]; exact hi)⟩
  have := zip_at ks xs _ n e hy
  rw [h] at this
  cases this
  exact hy
def setP : Dc → List V → Dc → Dc
  | _, [], n => n
  | row a xs, .int i :: r, n => row a (match xs[i.toNat]? with | some x => xs.set i.toNat (setP x r n) | none => xs)
  | tab a ks xs, .str k :: r, n => tab a ks (match xs[ix ks k]? with | some x => xs.set (ix ks k) (setP x r n) | none => xs)
  | d, _ :: _, _ => d
theorem setP_row {a : Addr} {xs : List Dc} {i : Nat} {x : Dc} (h : xs[i]? = some x) (r : List V) (n : Dc) : setP (row a xs) (.int (i : Int) :: r) n = row a (xs.set i (setP x r n)) := by
  simp only [setP, Int.toNat_natCast, h]
theorem setP_tab {a : Addr} {ks : List Str} {xs : List Dc} {k : Str} {x : Dc} (h : xs[ix ks k]? = some x) (r : List V) (n : Dc) : setP (tab a ks xs) (.str k :: r) n = tab a ks (xs.set (ix ks k) (setP x r n)) := by
  simp only [setP, h]
theorem sub_cons {d : Dc} {z : V} {r : List V} {e : Dc} (h : d.sub (z :: r) = some e) : (∃ a xs i x, d = row a xs ∧ z = .int ((i : Nat) : Int) ∧ xs[i]? = some x ∧ x.sub r = some e) ∨ ∃ a ks xs k x, d = tab a ks xs ∧ z = .str k ∧ (ks.zip xs).lookup k = some x ∧ x.sub r = some e := by
  cases d with
  | leaf v => simp [sub] at h
  | row a xs =>
    cases z with
    | int i =>
      simp only [sub] at h
      by_cases h0 : 0 ≤ i
      · rw [if_pos h0] at h
        cases hx : xs[i.toNat]? with
        | none => rw [hx] at h; simp at h
        | some x => rw [hx] at h; exact .inl ⟨a, xs, i.toNat, x, rfl, by rw [Int.toNat_of_nonneg h0], hx, h⟩
      · rw [if_neg h0] at h; simp at h
    | _ => simp [sub] at h
  | tab a ks xs =>
    cases z with
    | str k =>
      simp only [sub] at h
      cases hx : (ks.zip xs).lookup k with
      | none => rw [hx] at h; simp at h
      | some x => rw [hx] at h; exact .inr ⟨a, ks, xs, k, x, rfl, rfl, hx, h⟩
    | _ => simp [sub] at h
theorem sub_nil (d : Dc) : d.sub [] = some d := by cases d <;> rfl
theorem sub_row {a : Addr} {xs : List Dc} {i : Nat} {x : Dc} (h : xs[i]? = some x) (r : List V) : (row a xs).sub (.int (i : Int) :: r) = x.sub r := by
  simp only [sub]
  rw [if_pos (by omega), Int.toNat_natCast, h]
  rfl
theorem sub_tab {a : Addr} {ks : List Str} {xs : List Dc} {k : Str} {x : Dc} (h : (ks.zip xs).lookup k = some x) (r : List V) : (tab a ks xs).sub (.str k :: r) = x.sub r := by
  simp only [sub, h]
  rfl
theorem PartOf.sub {us : List V} : ∀ {d e : Dc}, d.sub us = some e → PartOf e d := by
  induction us with
  | nil => intro d e h; rw [sub_nil] at h; cases h; exact .refl d
  | cons z r ih =>
    intro d e h
    rcases sub_cons h with ⟨a, xs, i, x, rfl, rfl, hx, h'⟩ | ⟨a, ks, xs, k, x, rfl, rfl, hx, h'⟩
    · exact (ih h').trans (.row (List.mem_of_getElem? hx))
    · exact (ih h').trans (.tab (mem_zip_lookup hx).2)
def room : Dc → V → Bool
  | row _ xs, .int i => decide (0 ≤ i) && decide (i ≤ (xs.length : Int))
  | tab _ ks _, .str k => !ks.contains k
  | _, _ => false
def insN : Dc → V → Dc → Dc
  | row a xs, .int i, v => row a (xs.take i.toNat ++ v :: xs.drop i.toNat)
  | tab a ks xs, .str k, v => tab a (ks ++ [k]) (xs ++ [v])
  | d, _, _ => d
def delN : Dc → V → Dc
  | row a xs, .int i => row a (xs.eraseIdx i.toNat)
  | tab a ks xs, .str k => tab a (ks.eraseIdx (ix ks k)) (xs.eraseIdx (ix ks k))
  | d, _ => d
theorem sub_one {d : Dc} {z : V} {x : Dc} (h : d.sub [z] = some x) : (∃ a xs i, d = row a xs ∧ z = .int ((i : Nat) : Int) ∧ xs[i]? = some x) ∨ ∃ a ks xs k, d = tab a ks xs ∧ z = .str k ∧ (ks.zip xs).lookup k = some x := by
  rcases sub_cons h with ⟨a, xs, i, y, h1, h2, h3, h4⟩ | ⟨a, ks, xs, k, y, h1, h2, h3, h4⟩
  · rw [sub_nil] at h4; cases h4; exact .inl ⟨a, xs, i, h1, h2, h3⟩
  · rw [sub_nil] at h4; cases h4; exact .inr ⟨a, ks, xs, k, h1, h2, h3⟩
theorem room_cases {e : Dc} {z : V} (h : e.room z = true) : (∃ a xs i, e = row a xs ∧ z = .int ((i : Nat) : Int) ∧ i ≤ xs.length) ∨ ∃ a ks xs k, e = tab a ks xs ∧ z = .str k ∧ k ∉ ks := by
  cases e with
  | leaf v => cases z <;> simp [room] at h
  | row a xs =>
    cases z with
    | int i =>
      simp only [room, Bool.and_eq_true, decide_eq_true_eq] at h
      exact .inl ⟨a, xs, i.toNat, rfl, by rw [Int.toNat_of_nonneg h.1], by omega⟩
    | _ => simp [room] at h
  | tab a ks xs =>
    cases z with
    | str k =>
      simp only [room, Bool.not_eq_true', List.contains_eq_mem, decide_eq_false_iff_not] at h
      exact .inr ⟨a, ks, xs, k, rfl, rfl, h⟩
    | _ => simp [room] at h
theorem Eqv.sub {us : List V} : ∀ {d d' e : Dc}, d.Wf → d'.Wf → Eqv d d' → d.sub us = some e → ∃ e', d'.sub us = some e' ∧ Eqv e e' := by
  induction us with
  | nil => intro d d' e _ _ q h; rw [sub_nil] at h; cases h; exact ⟨d', sub_nil d', q⟩
  | cons z r ih =>
    intro d d' e w w' q h
    rcases sub_cons h with ⟨a, xs, i, x, rfl, rfl, hx, h'⟩ | ⟨a, ks, xs, k, x, rfl, rfl, hx, h'⟩
    · cases q with
      | @row _ b _ ys l hh =>
        cases w with
        | row wx =>
          cases w' with
          | row wy =>
            obtain ⟨y, hy⟩ : ∃ y, ys[i]? = some y := ⟨_, List.getElem?_eq_getElem (by rw [← l]; exact (List.getElem?_eq_some_iff.mp hx).1)⟩
            obtain ⟨e', g1, g2⟩ := ih (wx x (List.mem_of_getElem? hx)) (wy y (List.mem_of_getElem? hy)) (hh i x y hx hy) h'
            exact ⟨e', by rw [sub_row hy]; exact g1, g2⟩
    · cases q with
      | @tab _ b _ ls _ ys p hh =>
        cases w with
        | tab wl wn wx =>
          cases w' with
          | tab wl' wn' wy =>
            obtain ⟨y, hy, hm⟩ := lookup_of_mem wl' (p.mem_iff.mp (mem_zip_lookup hx).1)
            obtain ⟨e', g1, g2⟩ := ih (wx x (mem_zip_lookup hx).2) (wy y hm) (hh k x y hx hy) h'
            exact ⟨e', by rw [sub_tab hy]; exact g1, g2⟩
theorem lookup_set {ks : List Str} {xs : List Dc} {k k' : Str} {x y z : Dc} (l : ks.length = xs.length) (n : ks.Nodup) (hx : (ks.zip xs).lookup k = some x) (h : (ks.zip (xs.set (ix ks k) y)).lookup k' = some z) : (k' = k ∧ z = y) ∨ (k' ≠ k ∧ (ks.zip xs).lookup k' = some z) := by
  have l2 : ks.length = (xs.set (ix ks k) y).length := by rw [List.length_set]; exact l
  have hz := lookup_ix l2 n h
  have hk := (mem_zip_lookup hx).1
  have hk' := (mem_zip_lookup h).1
  by_cases e : k' = k
  · subst e
    rw [List.getElem?_set_self (List.getElem?_eq_some_iff.mp (lookup_ix l n hx)).1] at hz
    exact .inl ⟨rfl, (Option.some.inj hz).symm⟩
  · right
    refine ⟨e, ?_⟩
    have hne : ix ks k ≠ ix ks k' := fun w => e (by have h1 := ix_get hk; have h2 := ix_get hk'; rw [w, h2] at h1; exact Option.some.inj h1)
    rw [List.getElem?_set_ne hne] at hz
    exact zip_at ks xs _ n (ix_get hk') hz
theorem Eqv.setP {us : List V} : ∀ {d d' e n n' : Dc}, d.Wf → d'.Wf → Eqv d d' → d.sub us = some e → Eqv n n' → Eqv (Dc.setP d us n) (Dc.setP d' us n') := by
  induction us with
  | nil => intro d d' e n n' _ _ _ _ q; cases d <;> cases d' <;> exact q
  | cons z r ih =>
    intro d d' e n n' w w' q h qn
    rcases sub_cons h with ⟨a, xs, i, x, rfl, rfl, hx, h'⟩ | ⟨a, ks, xs, k, x, rfl, rfl, hx, h'⟩
    · cases q with
      | @row _ b _ ys l hh =>
        cases w with
        | row wx =>
          cases w' with
          | row wy =>
            obtain ⟨y, hy⟩ : ∃ y, ys[i]? = some y := ⟨_, List.getElem?_eq_getElem (by rw [← l]; exact (List.getElem?_eq_some_iff.mp hx).1)⟩
            rw [setP_row hx, setP_row hy]
            refine .row (by rw [List.length_set, List.length_set]; exact l) fun j x1 y1 h1 h2 => ?_
            by_cases hij : i = j
            · subst hij
              rw [List.getElem?_set_self (List.getElem?_eq_some_iff.mp hx).1] at h1
              rw [List.getElem?_set_self (List.getElem?_eq_some_iff.mp hy).1] at h2
              cases h1; cases h2
              exact ih (wx x (List.mem_of_getElem? hx)) (wy y (List.mem_of_getElem? hy)) (hh i x y hx hy) h' qn
            · rw [List.getElem?_set_ne hij] at h1 h2
              exact hh j x1 y1 h1 h2
    · cases q with
      | @tab _ b _ ls _ ys p hh =>
        cases w with
        | tab wl wn wx =>
          cases w' with
          | tab wl' wn' wy =>
            obtain ⟨y, hy, hm⟩ := lookup_of_mem wl' (p.mem_iff.mp (mem_zip_lookup hx).1)
            have hx' := lookup_ix wl wn hx
            have hy' := lookup_ix wl' wn' hy
            rw [setP_tab hx', setP_tab hy']
            refine .tab p fun k2 x1 y1 h1 h2 => ?_
            rcases lookup_set wl wn hx h1 with ⟨rfl, rfl⟩ | ⟨ne, g1⟩
            · rcases lookup_set wl' wn' hy h2 with ⟨_, rfl⟩ | ⟨ne, _⟩
              · exact ih (wx x (mem_zip_lookup hx).2) (wy y hm) (hh k2 x y hx hy) h' qn
              · exact absurd rfl ne
            · rcases lookup_set wl' wn' hy h2 with ⟨e2, _⟩ | ⟨_, g2⟩
              · exact absurd e2 ne
              · exact hh k2 x1 y1 g1 g2
end Dc
end L2

set_option Elab.async false
set_option linter.all false
set_option maxRecDepth 100000
set_option maxHeartbeats 4000000
namespace L2
open PySem PySem.Spec PyProof.Rows
theorem erase_perm {α : Type} {l : List α} {i : Nat} (h : i < l.length) : (l[i] :: l.eraseIdx i).Perm l := by
  have e4 : l = l.take i ++ l[i] :: l.drop (i + 1) := by rw [List.getElem_cons_drop, List.take_append_drop]
  rw [List.eraseIdx_eq_take_drop_succ]
  exact (List.perm_middle.symm).trans (by rw [← e4])
namespace Dc
theorem zip_erase {ks : List Str} {xs : List Dc} (l : ks.length = xs.length) (n : ks.Nodup) {k k' : Str} (hk : k ∈ ks) : ((ks.eraseIdx (ix ks k)).zip (xs.eraseIdx (ix ks k))).lookup k' = if k' = k then none else (ks.zip xs).lookup k' := by
  induction ks generalizing xs with
  | nil => cases hk
  | cons y r ih =>
    cases xs with
    | nil => simp at l
    | cons x t =>
      obtain ⟨n1, n2⟩ := List.nodup_cons.mp n
      by_cases e : y = k
      · subst e
        have e0 : ix (y :: r) y = 0 := by simp [ix, List.findIdx_cons]
        rw [e0]
        simp only [List.eraseIdx_zero, List.tail_cons, List.zip_cons_cons, List.lookup_cons]
        by_cases ek : k' = y
        · subst ek
          rw [if_pos rfl]
          cases q : (r.zip t).lookup k' with
          | none => rfl
          | some z => exact absurd (mem_zip_lookup q).1 n1
        · rw [if_neg ek]
          have : (k' == y) = false := by simpa using ek
          rw [this]
      · have hk' : k ∈ r := (List.mem_cons.mp hk).resolve_left (fun z => e z.symm)
        have e0 : ix (y :: r) k = ix r k + 1 := by
          have : (y == k) = false := by simpa using e
          simp [ix, List.findIdx_cons, this]
        rw [e0]
        simp only [List.eraseIdx_cons_succ, List.zip_cons_cons, List.lookup_cons]
        by_cases ek : k' = y
        · subst ek
          rw [if_neg e]
          simp
        · have : (k' == y) = false := by simpa using ek
          rw [this]
          exact ih (by simpa using l) n2 hk'
theorem ix_lt {ks : List Str} {k : Str} (h : k ∈ ks) : ix ks k < ks.length := (List.getElem?_eq_some_iff.mp (ix_get h)).1
theorem zip_snoc {ks : List Str} {xs : List Dc} (l : ks.length = xs.length) {k k' : Str} {v : Dc} (hk : k ∉ ks) : ((ks ++ [k]).zip (xs ++ [v])).lookup k' = if k' = k then some v else (ks.zip xs).lookup k' := by
  rw [List.zip_append l]
  induction ks generalizing xs with
  | nil =>
    cases xs with
    | cons _ _ => simp at l
    | nil =>
      by_cases e : k' = k
      · subst e; simp
      · have : (k' == k) = false := by simpa using e
        simp [List.lookup_cons, this, e]
  | cons y r ih =>
    cases xs with
    | nil => simp at l
    | cons x t =>
      simp only [List.zip_cons_cons, List.cons_append, List.lookup_cons]
      by_cases e : k' = y
      · subst e
        have ne : k' ≠ k := fun z => hk (by rw [← z]; exact List.mem_cons_self)
        rw [if_neg ne]
        simp
      · have : (k' == y) = false := by simpa using e
        rw [this]
        exact ih (by simpa using l) fun z => hk (List.mem_cons_of_mem _ z)
theorem Eqv.room {e e' : Dc} {z : V} (q : Eqv e e') : e.room z = e'.room z := by
  cases q with
  | leaf v => rfl
  | row l h => cases z <;> simp [Dc.room, l]
  | tab p h =>
    cases z with
    | str k => simp only [Dc.room, List.contains_eq_mem, p.mem_iff]
    | _ => rfl
theorem Eqv.insN {e e' v v' : Dc} {z : V} (we : e.Wf) (we' : e'.Wf) (h : e.room z = true) (q : Eqv e e') (qv : Eqv v v') : Eqv (Dc.insN e z v) (Dc.insN e' z v') := by
  rcases room_cases h with ⟨a, xs, i, rfl, rfl, hi⟩ | ⟨a, ks, xs, k, rfl, rfl, hk⟩
  · cases q with
    | @row _ b _ ys l hh =>
      simp only [Dc.insN, Int.toNat_natCast]
      refine .row (by simp [l]) fun j x y h1 h2 => ?_
      have lt : (xs.take i).length = i := by rw [List.length_take]; omega
      have lt' : (ys.take i).length = i := by rw [List.length_take]; omega
      by_cases hj : j < i
      · rw [List.getElem?_append_left (by omega), List.getElem?_take_of_lt hj] at h1
        rw [List.getElem?_append_left (by omega), List.getElem?_take_of_lt hj] at h2
        exact hh j x y h1 h2
      · rw [List.getElem?_append_right (by omega), lt] at h1
        rw [List.getElem?_append_right (by omega), lt'] at h2
        cases hji : j - i with
        | zero =>
          rw [hji] at h1 h2
          simp at h1 h2
          subst h1 h2
          exact qv
        | succ m =>
          rw [hji] at h1 h2
          simp only [List.getElem?_cons_succ, List.getElem?_drop] at h1 h2
          exact hh _ x y h1 h2
  · cases q with
    | @tab _ b _ ls _ ys p hh =>
      cases we with
      | tab wl wn wx =>
        cases we' with
        | tab wl' wn' wy =>
          simp only [Dc.insN]
          refine .tab (p.append_right _) fun k' x y h1 h2 => ?_
          rw [zip_snoc wl hk] at h1
          rw [zip_snoc wl' (fun z => hk (p.mem_iff.mpr z))] at h2
          by_cases ek : k' = k
          · rw [if_pos ek] at h1 h2
            cases h1; cases h2
            exact qv
          · rw [if_neg ek] at h1 h2
            exact hh k' x y h1 h2
theorem Eqv.delN {e e' x : Dc} {z : V} (we : e.Wf) (we' : e'.Wf) (h : e.sub [z] = some x) (q : Eqv e e') : Eqv (Dc.delN e z) (Dc.delN e' z) := by
  rcases sub_one h with ⟨a, xs, i, rfl, rfl, hx⟩ | ⟨a, ks, xs, k, rfl, rfl, hx⟩
  · cases q with
    | @row _ b _ ys l hh =>
      simp only [Dc.delN, Int.toNat_natCast]
      have hi := (List.getElem?_eq_some_iff.mp hx).1
      refine .row (by rw [List.length_eraseIdx_of_lt hi, List.length_eraseIdx_of_lt (by omega), l]) fun j x1 y1 h1 h2 => ?_
      rw [List.getElem?_eraseIdx] at h1 h2
      split at h1
      · rename_i hj
        rw [if_pos hj] at h2
        exact hh j x1 y1 h1 h2
      · rename_i hj
        rw [if_neg hj] at h2
        exact hh (j + 1) x1 y1 h1 h2
  · cases q with
    | @tab _ b _ ls _ ys p hh =>
      cases we with
      | tab wl wn wx =>
        cases we' with
        | tab wl' wn' wy =>
          have hk := (mem_zip_lookup hx).1
          have hk' := p.mem_iff.mp hk
          simp only [Dc.delN]
          refine .tab ?_ fun k' x1 y1 h1 h2 => ?_
          · have g1 : ks[ix ks k]'(ix_lt hk) = k := (List.getElem?_eq_some_iff.mp (ix_get hk)).2
            have g2 : ls[ix ls k]'(ix_lt hk') = k := (List.getElem?_eq_some_iff.mp (ix_get hk')).2
            have e1 : ks.Perm (k :: ks.eraseIdx (ix ks k)) := by have := (erase_perm (ix_lt hk)).symm; rw [g1] at this; exact this
            have e2 : ls.Perm (k :: ls.eraseIdx (ix ls k)) := by have := (erase_perm (ix_lt hk')).symm; rw [g2] at this; exact this
            exact List.Perm.cons_inv (e1.symm.trans (p.trans e2))
          · rw [zip_erase wl wn hk] at h1
            rw [zip_erase wl' wn' hk'] at h2
            by_cases ek : k' = k
            · rw [if_pos ek] at h1; cases h1
            · rw [if_neg ek] at h1 h2
              exact hh k' x1 y1 h1 h2
theorem Eqv.slim {d e : Dc} (wd : d.Wf) (we : e.Wf) (h : Eqv d e) : d.slim → e.slim := by
  have gen : ∀ l : List Dc, (∀ e ∈ l, e.slim) → Dc.slimL l := by
    intro l
    induction l with
    | nil => intro _; simp [Dc.slimL]
    | cons x t ih => intro h; simp only [Dc.slimL]; exact ⟨h x List.mem_cons_self, ih fun y hy => h y (List.mem_cons_of_mem _ hy)⟩
  induction h with
  | leaf v => exact id
  | @row a b xs ys l hx ih =>
    intro s
    cases wd with
    | row wx =>
      cases we with
      | row wy =>
        simp only [Dc.slim] at s ⊢
        refine gen ys fun y hy => ?_
        obtain ⟨i, hi, rfl⟩ := List.mem_iff_getElem.mp hy
        have hi' : i < xs.length := by omega
        exact ih i xs[i] ys[i] (List.getElem?_eq_getElem hi') (List.getElem?_eq_getElem hi) (wx _ (List.getElem_mem hi')) (wy _ hy) (slimL_mem s _ (List.getElem_mem hi'))
  | @tab a b ks ls xs ys p hx ih =>
    intro s
    cases wd with
    | tab wl wn wx =>
      cases we with
      | tab wl' wn' wy =>
        simp only [Dc.slim] at s ⊢
        refine ⟨by rw [← wl', ← p.length_eq, wl]; exact s.1, gen ys fun y hy => ?_⟩
        obtain ⟨i, hi, rfl⟩ := List.mem_iff_getElem.mp hy
        have hil : i < ls.length := by omega
        have h2 := zip_at ls ys i wn' (List.getElem?_eq_getElem hil) (List.getElem?_eq_getElem hi)
        obtain ⟨x, h1, hm⟩ := lookup_of_mem wl (p.mem_iff.mpr (List.getElem_mem hil))
        exact ih _ x ys[i] h1 h2 (wx x hm) (wy _ hy) (slimL_mem s.2 _ hm)
end Dc
end L2

set_option Elab.async false
set_option linter.all false
set_option maxRecDepth 100000
set_option maxHeartbeats 4000000
namespace L2
open PySem PySem.Spec PyProof.Rows
namespace Dc
end Dc
inductive spHoldsI (vs : List V) (H : Hp) (Q : VK) (u3_ : XK) : Prop
  | mk (d : Dc) (z : V) (x0 : vs = [d.val, z]) (x1 : d.At H) (x2 : Dc.StepV z) (x3 : Q (.bl (d.sub [z]).isSome) H) : spHoldsI  vs H Q u3_
inductive spFoundI (vs : List V) (H : Hp) (Q : VK) (u3_ : XK) : Prop
  | mk (d : Dc) (t : Addr) (xs : List V) (e : Dc) (x0 : vs = [d.val, .ref t]) (x1 : d.At H) (x2 : H t = some (.tup xs)) (x3 : (∀ z ∈ xs, Dc.StepV z)) (x4 : d.sub xs = some e) (x5 : Q e.val H) : spFoundI  vs H Q u3_
inductive spHolderI (vs : List V) (H : Hp) (Q : VK) (u3_ : XK) : Prop
  | mk (d : Dc) (t : Addr) (us : List V) (lv : V) (e : Dc) (x0 : vs = [d.val, .ref t]) (x1 : d.At H) (x2 : H t = some (.tup (us ++ [lv]))) (x3 : (∀ z ∈ us ++ [lv], Dc.StepV z)) (x4 : d.sub us = some e) (x5 : ∀ H', Same H H' → Q e.val H') : spHolderI  vs H Q u3_
inductive spFullI (vs : List V) (H : Hp) (Q : VK) (u3_ : XK) : Prop
  | mk (d : Dc) (t : Addr) (us : List V) (lv : V) (e : Dc) (x : Dc) (x0 : vs = [d.val, .ref t]) (x1 : d.At H) (x2 : H t = some (.tup (us ++ [lv]))) (x3 : (∀ z ∈ us ++ [lv], Dc.StepV z)) (x4 : d.sub us = some e) (x5 : e.sub [lv] = some x) (x6 : ∀ H', Same H H' → Q e.val H') : spFullI  vs H Q u3_
inductive spRoomI (vs : List V) (H : Hp) (Q : VK) (u3_ : XK) : Prop
  | mk (d : Dc) (z : V) (x0 : vs = [d.val, z]) (x1 : d.At H) (x2 : Dc.StepV z) (x3 : Q (.bl (d.room z)) H) : spRoomI  vs H Q u3_
inductive spPutI (vs : List V) (H : Hp) (Q : VK) (u3_ : XK) : Prop
  | mk (d : Dc) (v : Dc) (t : Addr) (us : List V) (lv : V) (e : Dc) (x0 : vs = [d.val, .ref t, v.val]) (x1 : d.At H) (x2 : d.slim) (x3 : d.size ≤ 800) (x4 : v.At H) (x5 : v.slim) (x6 : v.size ≤ 900) (x7 : H t = some (.tup (us ++ [lv]))) (x8 : (∀ z ∈ us ++ [lv], Dc.StepV z)) (x9 : d.sub us = some e) (x10 : e.room lv = true) (x11 : ∀ (d' : Dc) (H' : Hp), Fresh H H' d' → Dc.Eqv (d.setP us (e.insN lv v)) d' → Q d'.val H') : spPutI  vs H Q u3_
inductive spTakenI (vs : List V) (H : Hp) (Q : VK) (u3_ : XK) : Prop
  | mk (d : Dc) (t : Addr) (us : List V) (lv : V) (e : Dc) (x : Dc) (x0 : vs = [d.val, .ref t]) (x1 : d.At H) (x2 : d.slim) (x3 : d.size ≤ 900) (x4 : H t = some (.tup (us ++ [lv]))) (x5 : (∀ z ∈ us ++ [lv], Dc.StepV z)) (x6 : d.sub us = some e) (x7 : e.sub [lv] = some x) (x8 : ∀ (q : Addr) (d' x' : Dc) (H' : Hp), FreshL H H' [d', x'] → H' q = some (.tup [d'.val, x'.val]) → Dc.Eqv (d.setP us (e.delN lv)) d' → Dc.Eqv x x' → Q (.ref q) H') : spTakenI  vs H Q u3_
inductive spLeaf2I (vs : List V) (H : Hp) (Q : VK) (u3_ : XK) : Prop
  | mk (c : Int) (k : Nat) (x0 : vs = [.int c, .int (k : Int)]) (x1 : k ≤ 1000) (x2 : ∀ v H', LeafV v → Same H H' → Q v H') : spLeaf2I  vs H Q u3_
inductive spNames1I (vs : List V) (H : Hp) (Q : VK) (u3_ : XK) : Prop
  | mk (c : Int) (x0 : vs = [.int c]) (x1 : ∀ (p : Addr) (ys : List Str) (H' : Hp), Same H H' → H p = none → H' p = some (.lst (ys.map V.str)) → ys.length = 6 → ys.Nodup → (∀ y ∈ ys, nameB y = true) → Q (.ref p) H') : spNames1I  vs H Q u3_
end L2
namespace L2
open PySem PySem.Spec PyProof.Rows
section
variable {X : Cx} {CX : CXT} {k : Nat} {f : Addr} {fd : FuncData} {ps : List Str} {ds : List Value} {dvs : List V} {sp : Sp} {E : XK} {x : Str} {p pos : Pos} {e : Expr} {es : List Expr} {t : TA} {tf : TE}
end
inductive spGatheredI (fI : Addr) (vs : List V) (H : Hp) (Q : VK) (u3_ : XK) : Prop
  | mk (d : Dc) (x0 : vs = [d.val, .ref fI]) (x1 : d.At H) (x2 : d.slim) (x3 : d.size ≤ 900) (x4 : ∀ (p : Addr) (ws : List Dc) (H' : Hp), Same H H' → H p = none → H' p = some (.lst (ws.map Dc.val)) → ws.length = d.size → Q (.ref p) H') : spGatheredI fI vs H Q u3_
end L2

set_option Elab.async false
set_option linter.all false
set_option maxRecDepth 100000
set_option maxHeartbeats 4000000
namespace L2
open PySem PySem.Spec PyProof.Rows
namespace Dc
end Dc
section
variable {X : Cx}
inductive r_op_neTI (K : PySem.W.Frag) (x : V) (y : V) (H : Hp) (Q : VK) : Prop
  | mk (a : Addr) (b : Addr) (xs : List V) (ys : List V) (h0_ : x = .ref a) (h1_ : y = .ref b) (h2_ : SqT K H a xs) (h3_ : SqT K H b ys) (h4_ : (∀ z ∈ xs, flatV z = true)) (h5_ : (∀ z ∈ ys, flatV z = true)) (h6_ : Q (.bl (!eqTs xs ys)) H) : r_op_neTI K x y H Q
end
inductive spAlikeEI (n : Nat) (vs : List V) (H : Hp) (Q : VK) (u3_ : XK) : Prop
  | mk (d : Dc) (e : Dc) (x0 : vs = [d.val, e.val]) (x1 : d.At H) (x2 : e.At H) (x3 : Dc.Eqv d e) (x4 : d.size ≤ 63) (x5 : d.deep ≤ n) (x6 : ∀ H', Same H H' → Q (.bl true) H') : spAlikeEI n vs H Q u3_
inductive spPutBackI (vs : List V) (H : Hp) (Q : VK) (u3_ : XK) : Prop
  | mk (d : Dc) (t : Addr) (us : List V) (lv : V) (e : Dc) (x : Dc) (x0 : vs = [d.val, .ref t]) (x1 : d.At H) (x2 : d.size ≤ 40) (x3 : H t = some (.tup (us ++ [lv]))) (x4 : (∀ z ∈ us ++ [lv], Dc.StepV z)) (x5 : d.sub us = some e) (x6 : e.sub [lv] = some x) (x7 : ∀ H', Same H H' → Q (.bl true) H') : spPutBackI  vs H Q u3_
inductive spTakenBackI (vs : List V) (H : Hp) (Q : VK) (u3_ : XK) : Prop
  | mk (d : Dc) (v : Dc) (t : Addr) (us : List V) (lv : V) (e : Dc) (x0 : vs = [d.val, .ref t, v.val]) (x1 : d.At H) (x2 : d.size ≤ 40) (x3 : v.At H) (x4 : v.size ≤ 10) (x5 : H t = some (.tup (us ++ [lv]))) (x6 : (∀ z ∈ us ++ [lv], Dc.StepV z)) (x7 : d.sub us = some e) (x8 : e.room lv = true) (x9 : ∀ H', Same H H' → Q (.bl true) H') : spTakenBackI  vs H Q u3_
inductive spBehindI (vs : List V) (H : Hp) (Q : VK) (u3_ : XK) : Prop
  | mk (d : Dc) (t : Addr) (n : Addr) (us : List V) (ys : List Str) (e : Dc) (x0 : vs = [d.val, .ref t, .ref n]) (x1 : d.At H) (x2 : d.size ≤ 40) (x3 : H t = some (.tup us)) (x4 : (∀ z ∈ us, Dc.StepV z)) (x5 : us.length ≤ 40) (x6 : d.sub us = some e) (x7 : H n = some (.lst (ys.map V.str))) (x8 : ys.length = 6) (x9 : (∀ y ∈ ys, nameB y = true)) (x10 : ∀ (p : Addr) (ps : List Addr) (H' : Hp), Same H H' → H' p = some (.lst (ps.map V.ref)) → (∀ q ∈ ps, ∃ z, H' q = some (.tup (us ++ [z])) ∧ Dc.StepV z ∧ e.room z = true) → Q (.ref p) H') : spBehindI  vs H Q u3_
inductive spValueI (vs : List V) (H : Hp) (Q : VK) (u3_ : XK) : Prop
  | mk (c : Int) (n : Addr) (ys : List Str) (x0 : vs = [.int c, .ref n]) (x1 : H n = some (.lst (ys.map V.str))) (x2 : ys.length = 6) (x3 : ys.Nodup) (x4 : ∀ (v : Dc) (H' : Hp), Same H H' → v.At H' → v.size ≤ 10 → Q v.val H') : spValueI  vs H Q u3_
end L2

set_option Elab.async false
set_option linter.all false
set_option maxRecDepth 100000
set_option maxHeartbeats 4000000
namespace L2
open PySem PySem.Spec PyProof.Rows
structure Stp (S fr : List Addr) (h h' : Heap) : Prop where
  keep : ∀ b o, h.get? b = some o → b ∉ S → b ∉ fr → h'.get? b = some o
  slot : ∀ b o, h.get? b = some o → b ∈ fr → ∃ sl, h'.get? b = some { o with slots := sl }
section
variable {M : Model} {A : Around} {E : Value → Shared → Prop} {s : Shared} {base : Heap} {env : Env} {outer : List Env} {L e : Addr} {oe : Obj} {vs : Array Value} {Q : Unit → Shared → Prop}
structure Entry (h : Heap) (T : Addr) (v : Value) : Prop where
  ex : ∃ oT ts, h.get? T = some oT ∧ oT.data = .fields ts ∧ ts[3]? = some v
theorem entryX {head : Value} {hadNext : Bool} (hfr : A.frames = some (env :: outer)) (hl : s.heap.FunFrames base (env :: outer)) (hf : env.frame = some L) (he : s.heap.get? e = some oe) (hd : oe.data = .fields vs) (hsz : 1 < vs.size)
    (h : ∀ h' T, Stp [e] (frs (env :: outer)) s.heap h' → s.heap.get? T = none → h'.get? e = some (oe.mapFields (·.setIfInBounds 1 (.ref T))) → Entry h' T (rawInt L) → Q () { s with heap := h' }) :
    wpAny M A (do let a ← frameOf env; let pl ← entryPlaceOf L hadNext; let b ← EntryCells.newEntry head a .none (rawInt L) .none pl; setField (.ref e) 1 b) Q E s := by
  have hene : e ∉ (env :: outer).filterMap (·.frame) := fun hm => by
    obtain ⟨_, o, ho, hnf⟩ := hl.mem hm
    rw [he] at ho
    cases ho
    exact hnf vs hd
  refine wpAny_bind (wpAny_frameOf_fun hfr hl hf fun h₁ hs₁ => ?_)
  refine wpAny_bind (wpAny_entryPlaceOf fun pl hpl => ?_)
  unfold EntryCells.newEntry newFields
  refine wpAny_bind (wpAny_newObj_type ?_ (hpl.sizeOk5 _ _ _ _ _))
  have he₁ : h₁.get? e = some oe := (hs₁.2.1 e hene).trans he
  obtain ⟨oT, hoT⟩ : ∃ oT : Obj, oT = { cls := .type "traceback", dict := none, data := .fields ([head, .ref L, .none, rawInt L, .none] ++ (if pl.isEmpty then List.replicate 6 Value.none else pl)).toArray } := ⟨_, rfl⟩
  rw [← hoT]
  have he₂ := Heap.get?_push_of_some (h := h₁) oT he₁
  refine wpAny_setField he₂ hd hsz (h _ h₁.objs.size ⟨fun b o q hS hfr' => ?_, fun b o q hb => ?_⟩ ?_ ?_ ⟨oT, _, ?_, by rw [hoT], ?_⟩)
  · rw [Heap.get?_update_other _ _ (fun z => hS (by rw [← z]; simp))]
    exact Heap.get?_push_of_some _ ((hs₁.2.1 b hfr').trans q)
  · obtain ⟨sl, z⟩ := hs₁.2.2 b o q
    refine ⟨sl, ?_⟩
    rw [Heap.get?_update_other _ _ (fun z => hene (by rw [z]; exact hb))]
    exact Heap.get?_push_of_some _ z
  · exact Heap.get?_none_of_le (by rw [hs₁.1]; exact Nat.le_refl _)
  · exact Heap.get?_update_self _ he₂ (Obj.isFreed_of_fields (Obj.data_mapFields hd _))
  · rw [Heap.get?_update_other _ _ (Nat.ne_of_lt (Heap.lt_size he₁))]
    exact Heap.get?_push_size h₁ (by rw [hoT]; rfl)
  · simp
theorem landX {T : Addr} {v : Value} (he : s.heap.get? e = some oe) (hd : oe.data = .fields vs) (h1 : vs[1]? = some (.ref T)) (hT : Entry s.heap T v)
    (h : ∀ h', (∀ b, b ≠ T → h'.get? b = s.heap.get? b) → Entry h' T .none → Q () { s with heap := h' }) : wpAny M A (setFlight (.ref e) none) Q E s := by
  obtain ⟨oT, ts, g1, g2, g3⟩ := hT.ex
  have hsz : 3 < ts.size := (Array.getElem?_eq_some_iff.mp g3).1
  unfold setFlight
  refine wpAny_bind (wpAny_field he hd h1 ?_)
  rw [if_pos (show (Value.ref T != Value.none) = true from by simp)]
  refine wpAny_setField g1 g2 hsz (h _ (fun b hb => Heap.get?_update_other _ _ (Ne.symm hb)) ⟨_, _, Heap.get?_update_self _ g1 (Obj.isFreed_of_fields (Obj.data_mapFields g2 _)), Obj.data_mapFields g2 _, ?_⟩)
  simp [hsz]
theorem noteX {S : List Addr} (hfr : A.frames = some (env :: outer)) (hl : s.heap.FunFrames base (env :: outer)) (hf : env.frame = some L) (he : s.heap.get? e = some oe) (hd : oe.data = .fields vs) (hsz : 1 < vs.size)
    (hc : (vs[1]? = some .none ∧ S = []) ∨ ∃ T0, vs[1]? = some (.ref T0) ∧ T0 ≠ e ∧ Entry s.heap T0 .none ∧ S = [T0])
    (h : ∀ h' T, Stp (e :: S) (frs (env :: outer)) s.heap h' → s.heap.get? T = none → h'.get? e = some (oe.mapFields (·.setIfInBounds 1 (.ref T))) → Entry h' T (rawInt L) → Q () { s with heap := h' }) :
    wpAny M A (noteFrame (.ref e) env) Q E s := by
  unfold noteFrame
  simp only [hf]
  rcases hc with ⟨h1, rfl⟩ | ⟨T0, h1, ne, hT, rfl⟩
  · refine wpAny_bind (wpAny_field he hd h1 ?_)
    rw [if_neg (by decide)]
    exact entryX hfr hl hf he hd hsz h
  · obtain ⟨oT, ts, g1, g2, g3⟩ := hT.ex
    refine wpAny_bind (wpAny_field he hd h1 ?_)
    rw [if_pos (show (Value.ref T0 != Value.none) = true from by simp)]
    refine wpAny_bind (wpAny_field g1 g2 g3 ?_)
    rw [if_neg (show ¬ ((Value.none == rawInt L) = true) from by simp [rawInt])]
    refine wpAny_bind (wpAny_setField g1 g2 (Array.getElem?_eq_some_iff.mp g3).1 ?_)
    have other : ∀ b, b ≠ T0 → (s.heap.update T0 (Obj.mapFields (·.setIfInBounds 3 Value.none))).get? b = s.heap.get? b := fun b hb => Heap.get?_update_other _ _ (Ne.symm hb)
    have noF : ∀ b o, s.heap.get? b = some o → (∀ vs, o.data ≠ .fields vs) → b ≠ T0 := fun b o hb hnf q => by
      rw [q, g1] at hb
      cases hb
      exact hnf ts g2
    refine entryX (s := { s with heap := s.heap.update T0 (Obj.mapFields (·.setIfInBounds 3 Value.none)) }) hfr (hl.of_keeps fun b o hb hnf => ⟨o, (other b (noF b o hb hnf)).trans hb, rfl⟩) hf ((other e (Ne.symm ne)).trans he) hd hsz fun h' T st n1 n2 n3 => ?_
    refine h h' T ⟨fun b o q hS hfr' => ?_, fun b o q hb => ?_⟩ ?_ n2 n3
    · have hb : b ≠ T0 := fun z => hS (by rw [z]; simp)
      exact st.keep b o ((other b hb).trans q) (fun z => hS (by rw [List.mem_singleton.mp z]; simp)) hfr'
    · obtain ⟨_, o', z, nf⟩ := hl.mem hb
      rw [q] at z
      cases z
      exact st.slot b o ((other b (noF b o q nf)).trans q) hb
    · cases z : s.heap.get? T with
      | none => rfl
      | some o =>
        by_cases hz : T = T0
        · rw [hz, Heap.get?_update_self _ g1 (Obj.isFreed_of_fields (Obj.data_mapFields g2 _))] at n1
          cases n1
        · rw [other T hz, z] at n1
          cases n1
theorem leaveX {S : List Addr} (hfr : A.frames = some (env :: outer)) (hl : s.heap.FunFrames base (env :: outer)) (hf : env.frame = some L) (he : s.heap.get? e = some oe) (hd : oe.data = .fields vs) (hsz : 1 < vs.size)
    (hc : (vs[1]? = some .none ∧ S = []) ∨ ∃ T0, vs[1]? = some (.ref T0) ∧ T0 ≠ e ∧ Entry s.heap T0 .none ∧ S = [T0])
    (h : ∀ h' T, Stp (e :: S) (frs (env :: outer)) s.heap h' → s.heap.get? T = none → h'.get? e = some (oe.mapFields (·.setIfInBounds 1 (.ref T))) → Entry h' T .none → Q () { s with heap := h' }) :
    wpAny M A (leaving env (.ref e)) Q E s := by
  unfold leaving
  refine wpAny_bind (noteX hfr hl hf he hd hsz hc fun h1 T st n1 n2 n3 => ?_)
  have hTe : e ≠ T := fun z => by rw [← z, he] at n1; cases n1
  refine landX (s := { s with heap := h1 }) n2 (Obj.data_mapFields hd _) (T := T) (by simp [hsz]) n3 fun h2 k1 k2 => ?_
  refine h h2 T ⟨fun b o q hS hfr' => ?_, fun b o q hb => ?_⟩ n1 ((k1 e hTe).trans n2) k2
  · exact (k1 b (fun z => by rw [z, n1] at q; cases q)).trans (st.keep b o q hS hfr')
  · obtain ⟨sl, z⟩ := st.slot b o q hb
    exact ⟨sl, (k1 b (fun z => by rw [z, n1] at q; cases q)).trans z⟩
end
end L2

set_option Elab.async false
set_option linter.all false
set_option maxRecDepth 100000
set_option maxHeartbeats 4000000
namespace L2
open PySem PySem.Spec PyProof.Rows
section
variable {P : Program} {w : World} {H H' : Hp} {h h' h0 : Heap} {a e T C : Addr} {o : HO}
theorem ObjOk.some (x : ObjOk P w H h a o) : ∃ u, h.get? a = some u := by
  cases o with
  | lst xs => obtain ⟨_, _, _, _, e⟩ := x; exact ⟨_, e⟩
  | tup xs => obtain ⟨_, _, _, ob, e, _⟩ := x; exact ⟨_, e⟩
  | dK kvs => obtain ⟨_, _, _, _, o, _, _, e, _⟩ := x; exact ⟨_, e⟩
  | dT kvs => obtain ⟨_, _, _, _, o, _, _, e, _⟩ := x; exact ⟨_, e⟩
  | set S n => obtain ⟨o, _, _, _, e, _⟩ := x; exact ⟨_, e⟩
  | ins C dx fs => obtain ⟨_, _, _, e, _⟩ := x; exact ⟨_, e⟩
  | own y => obtain ⟨_, e⟩ := x; exact ⟨_, e⟩
  | xd fs => obtain ⟨_, ⟨_, _, _, e, _⟩, _⟩ := x; exact ⟨_, e⟩
  | rng lo hi => obtain ⟨_, _, _, e⟩ := x; exact ⟨_, e⟩
  | frz ob u => obtain ⟨e, _⟩ := x; exact ⟨_, e⟩
  | tbl ps => exact ⟨_, (show h.get? a = some _ from x)⟩
  | met f y => exact ⟨_, (show h.get? a = some _ from x)⟩
  | ext φ => obtain ⟨_, ⟨_, e⟩, _⟩ := x; exact ⟨_, e⟩
theorem HOk.none_of (x : HOk P w H h) (n : h.get? a = none) : H a = none := by
  cases q : H a with
  | none => rfl
  | some u =>
    obtain ⟨ob, e⟩ := (x a u q).some
    rw [n] at e
    cases e
theorem Un.stp {fs S fr : List Addr} (u : Un fs [] H H' h0 h) (t : Stp S fr h h') (hS : ∀ b ∈ S, h0.get? b = none) (hf : ∀ b ∈ fr, b ∈ fs ∨ h0.get? b = none) : Un fs [] H H' h0 h' := by
  have nS : ∀ {b o}, h0.get? b = some o → b ∉ S := fun q z => by rw [hS _ z] at q; cases q
  refine ⟨fun b o q n hb hx => ?_, fun b o q n hb hx => ?_, u.free, fun b o q hx => ?_, u.tups, u.frzs, u.tbls⟩
  · refine t.keep b o (u.keep b o q n hb hx) (nS q) fun z => ?_
    rcases hf b z with z | z
    · exact hb z
    · rw [z] at q; cases q
  · obtain ⟨sl, e⟩ := u.slot b o q n hb hx
    by_cases hz : b ∈ fr
    · obtain ⟨sl', e'⟩ := t.slot b _ e hz
      exact ⟨sl', e'⟩
    · exact ⟨sl, t.keep b _ e (nS q) hz⟩
  · obtain ⟨o', e⟩ := u.there b o q hx
    by_cases hz : b ∈ fr
    · obtain ⟨sl', e'⟩ := t.slot b _ e hz
      exact ⟨_, e'⟩
    · exact ⟨o', t.keep b _ e (nS q) hz⟩
theorem HOk.stp {S fr : List Addr} (x : HOk P w H h) (t : Stp S fr h h') (hS : ∀ b ∈ S, H b = none) (hf : ∀ b ∈ fr, H b = none) : HOk P w H h' := fun a o q =>
  (x a o q).stay (fun b u hb e => t.keep b u e
    (fun z => by rcases hb with rfl | hb; · rw [hS _ z] at q; cases q
                 · rw [hS _ z] at hb; cases hb)
    (fun z => by rcases hb with rfl | hb; · rw [hf _ z] at q; cases q
                 · rw [hf _ z] at hb; cases hb)) (fun _ q => q) fun _ _ q => q
structure Fly (H : Hp) (h0 h : Heap) (e C : Addr) (oe : Obj) (vs : Array Value) (T : Addr) : Prop where
  at_ : h.get? e = some oe
  cls : oe.cls = .ref C
  dict : oe.dict = none
  data : oe.data = .fields vs
  sz : 1 < vs.size
  one : vs[1]? = some (.ref T)
  ne : T ≠ e
  ent : Entry h T .none
  He : H e = none
  HT : H T = none
  ne0 : h0.get? e = none
  nT0 : h0.get? T = none
def CX1 (P : Program) (w : World) : CXT := fun outer H s E e s' => ∃ (e0 C : Addr) (H' : Hp), e = .ref e0 ∧ s'.os = s.os ∧ AllBare s'.gens ∧ Un (frs outer) [] H H' s.heap s'.heap ∧ HOk P w H' s'.heap ∧ (∃ oe vs T, Fly H' s.heap s'.heap e0 C oe vs T) ∧ E (.ref C) none H'
theorem Fly.next {oe : Obj} {vs : Array Value} {T' : Addr} (cls : oe.cls = .ref C) (dict : oe.dict = none) (data : oe.data = .fields vs) (sz : 1 < vs.size) (he : H e = none) (he0 : h0.get? e = none) (hok : HOk P w H h) (th : ∀ b o, h0.get? b = some o → ∃ o', h.get? b = some o') (hT : h.get? T' = none) (hin : ∃ o, h.get? e = some o)
    (h1 : h'.get? e = some (oe.mapFields (·.setIfInBounds 1 (.ref T')))) (h2 : Entry h' T' .none) : ∃ oe vs T, Fly H h0 h' e C oe vs T := by
  have n0 : h0.get? T' = none := by
    cases z : h0.get? T' with
    | none => rfl
    | some o =>
      obtain ⟨o', e'⟩ := th T' o z
      rw [hT] at e'
      cases e'
  refine ⟨_, _, T', h1, (Obj.cls_mapFields _ _).trans cls, ?_, Obj.data_mapFields data _, by simpa using sz, by simp [sz], fun z => ?_, h2, he, hok.none_of hT, he0, n0⟩
  · obtain ⟨c, d, dt, sl⟩ := oe
    cases data
    exact dict
  · obtain ⟨o, q⟩ := hin
    rw [← z, hT] at q
    cases q
end
section
variable {X : Cx} {pins : List (Addr × Obj)} {σ : St} {H : Hp} {s s' : Shared} {E : XK} {e : Value}
end
end L2
namespace L2
open PySem PySem.Spec PyProof.Rows
section
variable {P : Program} {w : World} {K : PySem.W.Frag} {mg : Str → Option Value} {base : Heap}
end
def excObjB (K : PySem.W.Frag) (C : Addr) (bmB : List Value) (newId : String) (o : Obj) : Bool := match o.data with
  | .cls cd => o.cls == .type "type" && (cd.mro.head? == some (.ref C) && (PySem.W.tailIn K bmB cd.mro.tail && (o.slots.size == 6 && (o.slots[4]? == some (some (.builtin newId)) && (!cd.hasDel && (PySem.W.nsOkIn K cd.ns && PySem.W.nsIn K cd.ns "__init__" == some none))))))
  | _ => false
def excInB (K : PySem.W.Frag) (C : Addr) (bmB : List Value) (newId : String) : Bool := (K.lookup C).any (excObjB K C bmB newId)
theorem list6 {α : Type} {l : List α} (h : l.length = 6) : ∃ a b c d e f, l = [a, b, c, d, e, f] := by
  cases l with
  | nil => cases h
  | cons a l =>
  cases l with
  | nil => cases h
  | cons b l =>
  cases l with
  | nil => cases h
  | cons c l =>
  cases l with
  | nil => cases h
  | cons d l =>
  cases l with
  | nil => cases h
  | cons e l =>
  cases l with
  | nil => cases h
  | cons f l =>
  cases l with
  | nil => exact ⟨a, b, c, d, e, f, rfl⟩
  | cons _ _ => cases h
theorem own_in {K : PySem.W.Frag} {h : Heap} {mg : Str → Option Value} {x : Str} {C : Addr} {bmB : List Value} {newId : String} (X : K.In h) (m : mg x = some (.ref C)) (q : excInB K C bmB newId = true) : OwnCls x C bmB newId mg h := by
  obtain ⟨o, ho, q⟩ := PySem.W.any_some q
  obtain ⟨c, dd, data, sl⟩ := o
  cases data with
  | cls cd =>
    obtain ⟨nm, bs, mro, ns, qn, hd, sn, sub, ab, col, del⟩ := cd
    simp only [excObjB, Bool.and_eq_true, beq_iff_eq, Bool.not_eq_true'] at q
    obtain ⟨h1, h2, h3, h4, h5, h6, h7, h8⟩ := q
    cases mro with
    | nil => cases h2
    | cons v bm =>
      cases h2
      obtain ⟨l⟩ := sl
      obtain ⟨k0, k1, k2, k3, k4, k5, rfl⟩ := list6 (l := l) h4
      cases h5
      subst h1 h6
      exact ⟨m, bm, ns, nm, qn, bs, hd, sn, sub, ab, col, dd, k0, k1, k2, k3, k5, _, X _ _ ho, .of_isNs (PySem.W.isNs_of_in X h7), PySem.W.nsMap_none_of_in X h7 h8, PySem.W.tail_of_in X h3⟩
  | _ => cases q
section
variable {X : Cx}
end
end L2
namespace L2
open PySem PySem.Spec PyProof.Rows
def subIn (K : PySem.W.Frag) (C D : Addr) : Bool := match K.lookup C with
  | some ⟨_, _, .cls cd, _⟩ => cd.mro.contains (.ref D)
  | _ => false
section
variable {M : Model} {A : Around} {E : Value → Shared → Prop}
theorem excMatches_own {nm q : Str} {C N : Addr} {bs bm : List Value} {hdct : Bool} {sn : List Str} {sub : List Value} {ab : Bool} {col : Option Bool} {dd : Option Addr} {k0 k1 k2 k3 k5 : Option Value} {newId : String}
    {nm' q' : Str} {C' N' : Addr} {bs' bm' : List Value} {hdct' : Bool} {sn' : List Str} {sub' : List Value} {ab' : Bool} {col' : Option Bool} {dd' : Option Addr} {k0' k1' k2' k3' k5' : Option Value} {newId' : String}
    {h : Heap} {g : Array GenState} {d : Drawn} {t : Nat} {os : OsState} {e : Addr} {oe : Obj} {b : Bool} {Q : Bool → Shared → Prop}
    (hC : h.get? C = some (excClassObj nm q C N bs bm hdct sn sub ab col dd k0 k1 k2 k3 k5 newId)) (hD : h.get? C' = some (excClassObj nm' q' C' N' bs' bm' hdct' sn' sub' ab' col' dd' k0' k1' k2' k3' k5' newId'))
    (he : h.get? e = some oe) (hcls : oe.cls = .ref C) (hbase : bm'.contains (.type "BaseException") = true) (hb : (Value.ref C :: bm).contains (.ref C') = b)
    (hq : Q b ⟨h, g, d, t, os⟩) : wpAny M A (excMatches (.ref e) (.ref C')) Q E ⟨h, g, d, t, os⟩ := by
  have hcB : (Value.ref C' :: bm').contains (.type "BaseException") = true := by rw [List.contains_cons, hbase, Bool.or_true]
  have f := tc_notTuple
  unfold excMatches
  cases b <;> (repeat (first | (with_reducible refine wpAny_loadPart_at he ?_; rw [hcls]) | with_reducible refine wpAny_loadPart_at hD ?_ | (with_reducible refine wpAny_isSubtype_exc hD ?_; rw [hcB]) | (with_reducible refine wpAny_isSubtype_exc hC ?_; rw [hb]) | wp_step)) <;> exact hq
end
abbrev Cx.held (X : Cx) (e : Value) : Cx := { X with A := X.A.mark (some e), calm := false, xe := fun _ _ => False }
section
variable {X : Cx} {pins : List (Addr × Obj)} {σ : St} {H : Hp} {s s' : Shared} {E : XK} {e : Value}
theorem Inv.held (I : Inv X pins σ H s) (e : Value) : Inv (X.held e) pins σ H s :=
  ⟨⟨I.ok.mod, I.ok.kind, I.ok.glob, I.ok.blt, I.ok.above, I.ok.inj, I.ok.has, I.ok.cab, (fun z => nomatch z), I.ok.frames, I.ok.stk, I.ok.exf, I.ok.bs, I.ok.bsz, I.ok.noex, I.ok.exfs, I.ok.funs, I.ok.frf⟩,
    I.os, I.bare, I.base, I.loc, I.cell, I.free, I.freeC, I.pin, I.hok, I.len⟩
theorem Inv.unheld (ok : X.Ok) (I : Inv (X.held e) pins σ H s) : Inv X pins σ H s := ⟨ok, I.os, I.bare, I.base, I.loc, I.cell, I.free, I.freeC, I.pin, I.hok, I.len⟩
theorem SP.unheld (ok : X.Ok) {D : Ends} {f : Flow} (h : SP (X.held e) pins D f s') : SP X pins D f s' := by
  cases f with
  | next => obtain ⟨σ', H', I, q⟩ := h; exact ⟨σ', H', I.unheld ok, q⟩
  | brk => obtain ⟨σ', H', I, q⟩ := h; exact ⟨σ', H', I.unheld ok, q⟩
  | cont => obtain ⟨σ', H', I, q⟩ := h; exact ⟨σ', H', I.unheld ok, q⟩
  | ret u => obtain ⟨v, σ', H', I, r, q⟩ := h; exact ⟨v, σ', H', I.unheld ok, r, q⟩
end
end L2
namespace L2
open PySem PySem.Spec PyProof.Rows
section
variable {X : Cx} {CX : CXT} {k : Nat} {f C Dd : Addr} {fd : FuncData} {ps : List Str} {sp : Sp} {x y n : Str} {p pos hp yp tp cp : Pos} {e0 : Expr} {es : List Expr} {ta : TA} {bmC bmD : List Value} {nC nD : String} {b0 : Stmt} {suite : List Stmt} {ts : TS}
structure Hits (X : Cx) (y : Str) (C Dd : Addr) (bmC bmD : List Value) (nC nD : String) : Prop where
  gl : Gl X y
  mg : X.mg y = some (.ref Dd)
  qC : excInB X.K C bmC nC = true
  qD : excInB X.K Dd bmD nD = true
  bs : bmD.contains (.type "BaseException") = true
  sub : subIn X.K C Dd = true
  db : (y == ("__debug__" : Str)) = false
end
end L2
namespace L2
open PySem PySem.Spec PyProof.Rows
abbrev Cx.heldP (X : Cx) (ea : Addr) (oe : Obj) : Cx := { X with A := X.A.mark (some (.ref ea)), calm := false, xe := fun _ _ => False, pn := (ea, oe) :: X.pn }
section
variable {X : Cx} {pins : List (Addr × Obj)} {σ : St} {H : Hp} {s s' : Shared} {E : XK} {e : Value} {ea : Addr} {oe : Obj}
theorem Inv.heldP (I : Inv X pins σ H s) (h1 : s.heap.get? ea = some oe) (h2 : H ea = none) (h3 : ea ≠ X.env.locals) (h4 : ea ∉ X.fs) (h5 : ∀ v, oe.data ≠ .cell v) : Inv (X.heldP ea oe) pins σ H s :=
  ⟨⟨I.ok.mod, I.ok.kind, I.ok.glob, I.ok.blt, I.ok.above, I.ok.inj, I.ok.has, I.ok.cab, (fun z => nomatch z), I.ok.frames, I.ok.stk, I.ok.exf, I.ok.bs, I.ok.bsz, I.ok.noex, I.ok.exfs, I.ok.funs, I.ok.frf⟩,
    I.os, I.bare, I.base, I.loc, I.cell, I.free, I.freeC, fun p hp => (List.mem_cons.mp hp).elim (fun z => by rw [z]; exact ⟨h1, h2, h3, h4, h5⟩) (fun z => I.pin p z), I.hok, I.len⟩
end
section
variable {X : Cx} {k i : Nat} {f C Dd : Addr} {fd : FuncData} {ps : List Str} {sp : Sp} {x y n : Str} {p pos hp yp tp cp : Pos} {e0 : Expr} {es : List Expr} {ta : TA} {bmC bmD : List Value} {nC nD : String} {b0 : Stmt} {suite : List Stmt} {ts : Addr → TS}
def Ends.only (D : Ends) : Ends := { nx := fun _ _ => False, rt := D.rt }
end
end L2
namespace L2
open PySem PySem.Spec PyProof.Rows
section
variable {X : Cx} {k i j : Nat} {f C Dd : Addr} {fd : FuncData} {ps : List Str} {sp : Sp} {x y n z : Str} {p pos hp yp tp cp zp : Pos} {e0 : Expr} {es : List Expr} {ta : TA} {bmC bmD : List Value} {nC nD : String} {b0 : Stmt} {suite : List Stmt} {ts : TS} {tx : Addr → TS}
end
section
variable {K : PySem.W.Frag} {x D : Addr} {ox : Obj}
abbrev bmV : List Value := [.type "ValueError", .type "Exception", .type "BaseException", .type "object"]
structure XKit (K : PySem.W.Frag) (D : Addr) : Prop where
  q : excInB K D bmV "ValueError.__new__" = true
  ga : PySem.W.findIn K (.ref D) "__getattribute__" = some (some (.builtin "BaseException.__getattribute__"))
  gn : PySem.W.findIn K (.ref D) "__getattr__" = some none
  hdct : PySem.W.hasDictIn K D = true
  ha : PySem.W.findIn K (.ref D) "__class__" = some (some (.builtin "object.__class__"))
  hn : PySem.W.specialIn K (.builtin "object.__class__") "__get__" = some (some (.builtin "getset_descriptor.__get__"))
  htk : PySem.W.takesIn K (.builtin "object.__class__") = some true
  hm : PySem.W.mroIn K D (.type "object") = some true
theorem kd1 : builtinKind "BaseException.__getattribute__" = some Manifest.AttrKind.slot := by kernel_rfl
theorem kd2 : splitId "BaseException.__getattribute__" = some ("BaseException", "__getattribute__") := by kernel_rfl
theorem kd3 : bmV.contains (.type "BaseException") = true := by decide
variable {X : Cx} {ea C : Addr} {oe : Obj}
inductive rIsiXI (K : PySem.W.Frag) (ea C : Addr) (xs : List V) (H : Hp) (Q : VK) : Prop
  | mk (c : V) (u : Value) (b : Bool) (x0 : xs = [.ref ea, c]) (x1 : (∀ u', RelV c u' → u' = u)) (x2 : PySem.W.kitOne K (.ref C) u = some b) (x3 : Q (.bl b) H) : rIsiXI K ea C xs H Q
end
section
variable {P : Program} {w : World} {K : PySem.W.Frag} {mg : Str → Option Value} {base : Heap}
end
end L2
namespace L2
open PySem PySem.Spec PyProof.Rows
inductive Df1E (P : Program) (w : World) (K : PySem.W.Frag) (mg : Str → Option Value) (base : Heap) (x : Str) (ps : List Str) (n : Nat) (sp : Sp) : Prop
  | mk (f : Addr) (fd : FuncData) (k : PySem.W.keepIn K (.ref f) = true) (b : Binds K fd ps []) (m : mg x = some (.ref f)) (G : FnOk P w K mg base (CX1 P w) n f fd ps sp) : Df1E P w K mg base x ps n sp
structure Df1 (P : Program) (w : World) (K : PySem.W.Frag) (mg : Str → Option Value) (base : Heap) (x : Str) (ps : List Str) (n : Nat) (sp : Sp) : Prop where
  ex : Df1E P w K mg base x ps n sp
theorem Df1.mk' {P : Program} {w : World} {K : PySem.W.Frag} {mg : Str → Option Value} {base : Heap} {x q : Str} {st : Stmt} {ps : List Str} {n : Nat} {sp : Sp} {f : Addr} {fd : FuncData} (F : Fun K x q st f fd) (b : Binds K fd ps []) (m : mg x = some (.ref f)) (G : FnOk P w K mg base (CX1 P w) n f fd ps sp) : Df1 P w K mg base x ps n sp := ⟨⟨f, fd, F.kp, b, m, G⟩⟩
inductive spFound1I (C : Addr) (vs : List V) (H : Hp) (Q : VK) (E : XK) : Prop
  | mk (d : Dc) (t : Addr) (xs : List V) (x0 : vs = [d.val, .ref t]) (x1 : d.At H) (x2 : H t = some (.tup xs)) (x3 : (∀ z ∈ xs, Dc.StepV z)) (x4 : (∀ e, d.sub xs = some e → Q e.val H)) (x5 : (d.sub xs = none → ∀ H', Same H H' → E (.ref C) none H')) : spFound1I C vs H Q E
inductive spPartAtI (C : Addr) (vs : List V) (H : Hp) (Q : VK) (E : XK) : Prop
  | mk (d : Dc) (t : Addr) (xs : List V) (x0 : vs = [d.val, .ref t]) (x1 : d.At H) (x2 : d.slim) (x3 : d.size ≤ 900) (x4 : H t = some (.tup xs)) (x5 : (∀ z ∈ xs, Dc.StepV z)) (x6 : (∀ e, d.sub xs = some e → ∀ (d' : Dc) (H' : Hp), Fresh H H' d' → Dc.like e d' → Q d'.val H')) (x7 : (d.sub xs = none → ∀ H', Same H H' → E (.ref C) none H')) : spPartAtI C vs H Q E
inductive spHasPartI (vs : List V) (H : Hp) (Q : VK) (u3_ : XK) : Prop
  | mk (d : Dc) (t : Addr) (xs : List V) (x0 : vs = [d.val, .ref t]) (x1 : d.At H) (x2 : H t = some (.tup xs)) (x3 : (∀ z ∈ xs, Dc.StepV z)) (x4 : ∀ H', Same H H' → Q (.bl (d.sub xs).isSome) H') : spHasPartI  vs H Q u3_
end L2
namespace L2
open PySem
end L2
namespace L2
open PySem PySem.Spec PyProof.Rows
theorem b_ValueError : bootBuiltins "ValueError" = some (.type "ValueError") := by decide +kernel
end L2

set_option Elab.async false
set_option linter.all false
set_option maxRecDepth 100000
set_option maxHeartbeats 4000000
namespace L2
open PySem PySem.Spec PyProof.Rows
structure RoomN (k : Nat) (A : Around) : Prop where
  dp : A.depth + 3 * k + 5 < recursionLimit
  un : A.units + 16 * k + 200 < cLine
  gd : A.guards = some []
abbrev calmed (A : Around) : Around := { A with handled := none }
theorem RoomN.room {k : Nat} {A : Around} (r : RoomN k A) : Room k (calmed A) := ⟨rfl, r.dp, r.un, r.gd⟩
theorem Room.held {k : Nat} {A : Around} (r : Room k A) (v : Option Value) : RoomN k (A.mark v) := ⟨r.dp, r.un, r.gd⟩
theorem RoomN.mono {j k : Nat} {A : Around} (r : RoomN k A) (h : j ≤ k) : RoomN j A := ⟨by have := r.dp; omega, by have := r.un; omega, r.gd⟩
theorem RoomN.deeper {k : Nat} {A : Around} (r : RoomN (k + 1) A) (env : Env) : RoomN k (A.deeper env) :=
  ⟨by have := r.dp; show A.depth + 1 + 3 * k + 5 < _; omega, by have := r.un; show A.units + 3 + 16 * k + 200 < _; omega, r.gd⟩
theorem RoomN.units0 {k : Nat} {A : Around} (r : RoomN k A) : A.units < cLine := by have := r.un; omega
structure FnOkN (P : Program) (w : World) (K : PySem.W.Frag) (mg : Str → Option Value) (base : Heap) (CX : CXT) (k : Nat) (f : Addr) (fd : FuncData) (ps : List Str) (sp : Sp) : Prop where
  len : ∀ vs H Q E, sp vs H Q E → vs.length = ps.length
  run : ∀ (A : Around) (outer : List Env) (s : Shared) (H : Hp) (args : Args) (us : List Value) (vs : List V) (Q : VK) (E : XK), RoomN k A → Env0 P w K mg base A outer s H → BindsTo s fd args (ps.zip us) → Vals vs us → sp vs H Q E →
    codeAny (model P w) A (.call (.ref f) args) (CR CX outer P w H s Q E) s
abbrev cxN (CX : CXT) (P : Program) (w : World) (K : PySem.W.Frag) (mg : Str → Option Value) (base : Heap) (N : List Str) (qual : Str) (scope : Scope) (f : Addr) (cd : Value) (A : Around) (outer : List Env) (s : Shared) (H : Hp) (E : XK) : Cx :=
  { cxOf CX P w K mg base N qual scope f cd A outer s H E with calm := false }
theorem Env0.held {P : Program} {w : World} {K : PySem.W.Frag} {mg : Str → Option Value} {base : Heap} {A : Around} {outer : List Env} {s : Shared} {H : Hp} (e : Env0 P w K mg base A outer s H) (u : Unit) : Env0 P w K mg base (calmed A) outer s H :=
  ⟨e.frames, e.mod, e.bs, e.bsz, e.funs, e.frf, e.hok, e.bare⟩
theorem fn_ofN {CX : CXT} {P : Program} {w : World} {K : PySem.W.Frag} {mg : Str → Option Value} {base : Heap} {k : Nat} {f : Addr} {name qual : Str} {params : Arguments} {body : List Stmt} {scope : Scope} {dV kV doc pm cdv ct oc : Value} {an od : Option Addr}
    {osl : Array (Option Value)} {N ps : List Str} {sp : Sp} (lk : K.lookup f = some ⟨oc, od, .func (PySem.W.fnOf name qual params body scope dV kV doc pm an cdv ct), osl⟩) (hcd : PySem.W.codeIn K cdv qual = true) (S : FnScope N ps scope)
    (len : ∀ vs H Q E, sp vs H Q E → vs.length = ps.length)
    (hbody : ∀ (A : Around) (outer : List Env) (s : Shared) (H : Hp) (vs : List V) (Q : VK) (E : XK), RoomN k (A.deeper (envOfC qual scope s.heap.objs.size f cdv)) → sp vs H Q E →
      ∃ t, PSs (cxN CX P w K mg base N qual scope f cdv A outer s H E) body t ∧ t { nx := fun _ H' => Q .non H', rt := Q } (start N vs) H) :
    FnOkN P w K mg base CX (k + 1) f (PySem.W.fnOf name qual params body scope dV kV doc pm an cdv ct) ps sp := by
  refine ⟨len, fun A outer s H args us vs Q E hr e0 hb r hsp => ?_⟩
  have hl := len _ _ _ _ hsp
  have KX : K.In s.heap := e0.mod.kin.keeps fun b o e => (e0.bs b o e).1
  have lim : s.heap.NoLimit := e0.mod.nolimit.keeps fun b o e => (e0.bs b o e).1
  have hkind : ∀ y ∈ ps.zip us, scope.names.lookup y.1 = some .local ∨ (scope.names.lookup y.1 = some .cell ∧ ((cellsFrom (s.heap.objs.size + 1) scope.names []).lookup y.1).isSome = true) := fun ⟨n, v⟩ hy => by
    rcases S.par n (List.of_mem_zip hy).1 with q | q
    · exact .inl q
    · exact .inr ⟨q, PySem.W.cellsFrom_some _ _ _ (.inl q)⟩
  refine codeAny_call_function (show A.depth < recursionLimit by have := hr.dp; omega) (KX _ _ lk) rfl S.co S.gen rfl (PySem.W.codeRec_of KX hcd) (hb _ _ _ _ ?_)
  refine wpAny_newFunctionEnv_cells S.kind hkind fun env he s1 x => ?_
  subst he
  refine ⟨lim.keeps x.toInCall.keep, codeAny_func ?_⟩
  obtain ⟨t, ht, hq⟩ := hbody A outer s H vs Q E (hr.deeper _) hsp
  have I0 : Inv (cxOf CX P w K mg base N qual scope f cdv (calmed A) outer s H E) [] (start N vs) H s1 := inv_start S rfl (e0.held ()) hl r x
  have I : Inv (cxN CX P w K mg base N qual scope f cdv A outer s H E) [] (start N vs) H s1 :=
    ⟨⟨I0.ok.mod, I0.ok.kind, I0.ok.glob, I0.ok.blt, I0.ok.above, I0.ok.inj, I0.ok.has, I0.ok.cab, (fun z => nomatch z), Around.frames_deeper e0.frames, I0.ok.stk, I0.ok.exf, I0.ok.bs, I0.ok.bsz, I0.ok.noex, I0.ok.exfs, I0.ok.funs, I0.ok.frf⟩,
      I0.os, I0.bare, I0.base, I0.loc, I0.cell, I0.free, I0.freeC, I0.pin, I0.hok, I0.len⟩
  refine wpAny_mono (ht [] s1 (start N vs) H _ I hq) (fun fl s' hs => ?_) fun e s' hs => hs
  have fin : ∀ {σ' : St} {H' : Hp} {v : V} {u : Value}, Inv (cxN CX P w K mg base N qual scope f cdv A outer s H E) [] σ' H' s' → RelV v u → Q v H' → CE outer P w H s Q u s' :=
    fun {σ' H' v u} J rv q => ⟨v, H', J.os, J.bare, J.base, J.hok, rv, q⟩
  cases fl with
  | ret u =>
    obtain ⟨v, σ', H', J, rv, q⟩ := hs
    exact fin J rv q
  | next =>
    obtain ⟨σ', H', J, q⟩ := hs
    exact fin (v := V.non) (u := Value.none) J rfl q
  | brk =>
    obtain ⟨_, _, _, q⟩ := hs
    exact False.elim q
  | cont =>
    obtain ⟨_, _, _, q⟩ := hs
    exact False.elim q
section
variable {P : Program} {w : World} {K : PySem.W.Frag} {mg : Str → Option Value} {base : Heap}
theorem Fun.okN {x qual : Str} {st : Stmt} {f : Addr} {fd : FuncData} {N ps : List Str} {k : Nat} {sp : Sp} (F : Fun K x qual st f fd) (S : FnScope N ps (defScope st)) (len : ∀ vs H Q E, sp vs H Q E → vs.length = ps.length)
    (hbody : ∀ (cdv : Value) (A : Around) (outer : List Env) (s : Shared) (H : Hp) (vs : List V) (Q : VK) (E : XK), RoomN k (A.deeper (envOfC qual (defScope st) s.heap.objs.size f cdv)) → sp vs H Q E →
      ∃ t, PSs (cxN CX0 P w K mg base N qual (defScope st) f cdv A outer s H E).nox (defBody st) t ∧ t { nx := fun _ H' => Q .non H', rt := Q } (start N vs) H) : FnOkN P w K mg base CX0 (k + 1) f fd ps sp := by
  obtain ⟨oc, od, kV, doc, pm, an, cdv, ct, osl, rfl, lk, hcd⟩ := F.ex
  refine fn_ofN lk hcd S len fun A outer s H vs Q E hr hsp => ?_
  obtain ⟨t, h, q⟩ := hbody cdv A outer s H vs Q E hr hsp
  exact ⟨t, h.nox, q⟩
inductive DfNE (P : Program) (w : World) (K : PySem.W.Frag) (mg : Str → Option Value) (base : Heap) (x : Str) (ps : List Str) (n : Nat) (sp : Sp) : Prop
  | mk (f : Addr) (fd : FuncData) (k : PySem.W.keepIn K (.ref f) = true) (b : Binds K fd ps []) (m : mg x = some (.ref f)) (G : FnOkN P w K mg base CX0 n f fd ps sp) : DfNE P w K mg base x ps n sp
structure DfN (P : Program) (w : World) (K : PySem.W.Frag) (mg : Str → Option Value) (base : Heap) (x : Str) (ps : List Str) (n : Nat) (sp : Sp) : Prop where
  ex : DfNE P w K mg base x ps n sp
theorem DfN.mk' {x q : Str} {st : Stmt} {ps : List Str} {n : Nat} {sp : Sp} {f : Addr} {fd : FuncData} (F : Fun K x q st f fd) (b : Binds K fd ps []) (m : mg x = some (.ref f)) (G : FnOkN P w K mg base CX0 n f fd ps sp) : DfN P w K mg base x ps n sp := ⟨⟨f, fd, F.kp, b, m, G⟩⟩
end
section
variable {X : Cx} {CX : CXT} {k : Nat} {f : Addr} {fd : FuncData} {ps : List Str} {ds : List Value} {dvs : List V} {sp : Sp} {E : XK} {x : Str} {p pos : Pos} {e : Expr} {es : List Expr} {t : TA}
theorem run_fnN {pins : List (Addr × Obj)} {σ : St} {H : Hp} {s : Shared} {Q : VK} {us : List Value} {vs : List V} (F : FnOkN X.prog X.w X.K X.mg X.base CX k f fd ps sp) (hr : RoomN k X.A) (hb : Binds X.K fd ps ds) (hd : Vals dvs ds) (hx : Passes CX X E)
    (I : Inv X pins σ H s) (r : Vals vs us) (h : sp (vs ++ dvs) H Q E) : wpAny (model X.prog X.w) X.A (call (.ref f) us) (EP X pins σ Q) X.xe s := by
  have r2 : Vals (vs ++ dvs) (us ++ ds) := r.append hd
  have hl : (us ++ ds).length = ps.length := by rw [← r2.length]; exact F.len _ _ _ _ h
  refine wpAny_call (codeAny_mono (F.run X.A X.stack s H ⟨us, []⟩ (us ++ ds) (vs ++ dvs) Q E hr I.env0 (hb s us I.kIn hl) r2 h) fun r s' hq => ?_)
  cases r with
  | error e => exact hx pins σ H s e s' I hq
  | ok fl =>
    cases fl with
    | ret u => exact I.after hq
    | next => exact False.elim hq
    | brk => exact False.elim hq
    | cont => exact False.elim hq
theorem pe_callN (F : FnOkN X.prog X.w X.K X.mg X.base CX k f fd ps sp) (hr : RoomN k X.A) (hg : Gl X x) (hm : X.mg x = some (.ref f)) (hk : PySem.W.keepIn X.K (.ref f) = true) (hb : Binds X.K fd ps ds) (hd : Vals dvs ds) (hx : Passes CX X E)
    (ha : PA X (e :: es) t) (hdb : (x == ("__debug__" : Str)) = false := by decide) (he : starEach (e :: es) X.env = (false, eval e X.env) :: starEach es X.env := by rfl) (hpl : (backTo pos (starEach es X.env)).any (·.1) = false := by rfl) :
    PE X (.Call (.Name x p) (e :: es) [] pos) (tCall sp dvs E t) := by
  intro pins s σ H Q I h
  refine wpAny_Call_Name_kw (ld_glob I hg hm ?_ hdb)
  refine PySem.W.callWith_K (h₀ := X.base) I.ok.mod.kin hk (thn (ha pos pins s σ H _ I h) fun us s1 zq => zq.elim fun vs H1 I1 r q => ⟨I1.kIn, ?_⟩) he hpl
  exact run_fnN F hr hb hd hx I1 r q
end
def ExcP (ea C : Addr) (h : Heap) : Prop := ∃ oe : Obj, h.get? ea = some oe ∧ oe.cls = .ref C ∧ oe.dict = none ∧ PySem.W.notCls oe = true
def ExcO (ea C : Addr) : HO := .ext (ExcP ea C)
section
variable {X : Cx} {pins : List (Addr × Obj)} {σ : St} {H : Hp} {s : Shared} {ea C : Addr} {oe : Obj}
inductive rIsiEI (K : PySem.W.Frag) (C : Addr) (xs : List V) (H : Hp) (Q : VK) : Prop
  | mk (ea : Addr) (c : V) (u : Value) (b : Bool) (x0 : xs = [.ref ea, c]) (x1 : H ea = some (ExcO ea C)) (x2 : (∀ u', RelV c u' → u' = u)) (x3 : PySem.W.kitOne K (.ref C) u = some b) (x4 : Q (.bl b) H) : rIsiEI K C xs H Q
end
section
variable {X : Cx} {k i j : Nat} {f C Dd : Addr} {fd : FuncData} {ps : List Str} {sp : Sp} {x y n z : Str} {p pos hp yp tp cp zp : Pos} {e0 : Expr} {es : List Expr} {ta : TA} {bmC bmD : List Value} {nC nD : String} {b0 : Stmt} {suite : List Stmt} {tx : TS}
end
end L2
namespace L2
open PySem PySem.Spec PyProof.Rows
inductive spHolder1I (C : Addr) (vs : List V) (H : Hp) (Q : VK) (E : XK) : Prop
  | mk (d : Dc) (t : Addr) (xs : List V) (x0 : vs = [d.val, .ref t]) (x1 : d.At H) (x2 : H t = some (.tup xs)) (x3 : (∀ z ∈ xs, Dc.StepV z)) (x4 : (∀ us lv e, xs = us ++ [lv] → d.sub us = some e → ∀ H', Same H H' → Q e.val H')) (x5 : ((xs = [] ∨ ∃ us lv, xs = us ++ [lv] ∧ d.sub us = none) → ∀ H', Same H H' → E (.ref C) none H')) : spHolder1I C vs H Q E
inductive spFull1I (C : Addr) (vs : List V) (H : Hp) (Q : VK) (E : XK) : Prop
  | mk (d : Dc) (t : Addr) (xs : List V) (x0 : vs = [d.val, .ref t]) (x1 : d.At H) (x2 : H t = some (.tup xs)) (x3 : (∀ z ∈ xs, Dc.StepV z)) (x4 : (∀ us lv e x, xs = us ++ [lv] → d.sub us = some e → e.sub [lv] = some x → ∀ H', Same H H' → Q e.val H')) (x5 : ((xs = [] ∨ d.sub xs = none) → ∀ H', Same H H' → E (.ref C) none H')) : spFull1I C vs H Q E
def Dc.NoPut (d : Dc) (xs : List V) : Prop := ∀ us lv e, xs = us ++ [lv] → d.sub us = some e → e.room lv = false
inductive spPut1I (C : Addr) (vs : List V) (H : Hp) (Q : VK) (E : XK) : Prop
  | mk (d : Dc) (v : Dc) (t : Addr) (xs : List V) (x0 : vs = [d.val, .ref t, v.val]) (x1 : d.At H) (x2 : d.slim) (x3 : d.size ≤ 800) (x4 : v.At H) (x5 : v.slim) (x6 : v.size ≤ 900) (x7 : H t = some (.tup xs)) (x8 : (∀ z ∈ xs, Dc.StepV z)) (x9 : (∀ us lv e, xs = us ++ [lv] → d.sub us = some e → e.room lv = true → ∀ (d' : Dc) (H' : Hp), Fresh H H' d' → Dc.Eqv (d.setP us (e.insN lv v)) d' → Q d'.val H')) (x10 : (d.NoPut xs → ∀ H', Same H H' → E (.ref C) none H')) : spPut1I C vs H Q E
inductive spTaken1I (C : Addr) (vs : List V) (H : Hp) (Q : VK) (E : XK) : Prop
  | mk (d : Dc) (t : Addr) (xs : List V) (x0 : vs = [d.val, .ref t]) (x1 : d.At H) (x2 : d.slim) (x3 : d.size ≤ 900) (x4 : H t = some (.tup xs)) (x5 : (∀ z ∈ xs, Dc.StepV z)) (x6 : (∀ us lv e x, xs = us ++ [lv] → d.sub us = some e → e.sub [lv] = some x → ∀ (q : Addr) (d' x' : Dc) (H' : Hp), FreshL H H' [d', x'] → H' q = some (.tup [d'.val, x'.val]) → Dc.Eqv (d.setP us (e.delN lv)) d' → Dc.Eqv x x' → Q (.ref q) H')) (x7 : ((xs = [] ∨ d.sub xs = none) → ∀ H', Same H H' → E (.ref C) none H')) : spTaken1I C vs H Q E
inductive spStandsI (vs : List V) (H : Hp) (Q : VK) (u3_ : XK) : Prop
  | mk (d : Dc) (t : Addr) (xs : List V) (x0 : vs = [d.val, .ref t]) (x1 : d.At H) (x2 : H t = some (.tup xs)) (x3 : (∀ z ∈ xs, Dc.StepV z)) (x4 : Q (.bl (d.sub xs).isSome) H) : spStandsI  vs H Q u3_
def OnlyAt (as : List Addr) (H H' : Hp) : Prop := ∀ a o, a ∉ as → H a = some o → H' a = some o
inductive spSpoilI (n : Nat) (vs : List V) (H : Hp) (Q : VK) (u3_ : XK) : Prop
  | mk (d : Dc) (x0 : vs = [d.val]) (x1 : d.At H) (x2 : d.addrs.Nodup) (x3 : (∀ a ∈ d.addrs, ∀ o u, H a ≠ some (.frz o u))) (x4 : d.deep ≤ n) (x5 : d.size ≤ 900) (x6 : ∀ H', OnlyAt d.addrs H H' → Q .non H') : spSpoilI n vs H Q u3_
inductive spNoPartI (C : Addr) (vs : List V) (H : Hp) (Q : VK) (u3_ : XK) : Prop
  | mk (ea : Addr) (x0 : vs = [.ref ea]) (x1 : H ea = some (ExcO ea C)) (x2 : ∀ H', Same H H' → Q (.bl true) H') : spNoPartI C vs H Q u3_
end L2
namespace L2
open PySem PySem.Spec PyProof.Rows
inductive spLPutI (vs : List V) (H : Hp) (Q : VK) (u3_ : XK) : Prop
  | mk (d : Dc) (v : Dc) (t : Addr) (xs : List V) (x0 : vs = [d.val, .ref t, v.val]) (x1 : d.At H) (x2 : d.size ≤ 24) (x3 : v.At H) (x4 : v.size ≤ 24) (x5 : H t = some (.tup xs)) (x6 : (∀ z ∈ xs, Dc.StepV z)) (x7 : (∀ us lv e, xs = us ++ [lv] → d.sub us = some e → e.room lv = true → ∀ (g : Addr) (d' : Dc) (H' : Hp), Fresh H H' d' → H' g = some (.tup [d'.val]) → Dc.Eqv (d.setP us (e.insN lv v)) d' → Q (.ref g) H')) (x8 : (d.NoPut xs → ∀ H', Same H H' → Q .non H')) : spLPutI  vs H Q u3_
inductive spMoreI (vs : List V) (H : Hp) (Q : VK) (u3_ : XK) : Prop
  | mk (d : Dc) (t : Addr) (n : Addr) (xs : List V) (ys : List Str) (c : Int) (e : Dc) (x0 : vs = [d.val, .ref t, .ref n, .int c]) (x1 : d.At H) (x2 : d.size ≤ 24) (x3 : H t = some (.tup xs)) (x4 : (∀ z ∈ xs, Dc.StepV z)) (x5 : xs.length ≤ 40) (x6 : d.sub xs = some e) (x7 : H n = some (.lst (ys.map V.str))) (x8 : ys.length = 6) (x9 : (∀ y ∈ ys, nameB y = true)) (x10 : ∀ (w : Addr) (z : V) (H' : Hp), Same H H' → H' w = some (.tup (xs ++ [z])) → Dc.StepV z → Q (.ref w) H') : spMoreI  vs H Q u3_
inductive spRightPI (vs : List V) (H : Hp) (Q : VK) (u3_ : XK) : Prop
  | mk (d : Dc) (v : Dc) (t : Addr) (xs : List V) (x0 : vs = [d.val, .ref t, v.val]) (x1 : d.At H) (x2 : d.size ≤ 24) (x3 : v.At H) (x4 : v.size ≤ 24) (x5 : H t = some (.tup xs)) (x6 : (∀ z ∈ xs, Dc.StepV z)) (x7 : ∀ H', Same H H' → Q (.bl true) H') : spRightPI  vs H Q u3_
theorem Fresh.down {H H1 H2 : Hp} {d : Dc} (D : Fresh H1 H2 d) (s : Same H H1) : Fresh H H2 d := ⟨s.trans D.same, D.at_, D.nd, D.own, fun a ha => s.free (D.new a ha)⟩
end L2
namespace L2
open PySem PySem.Spec PyProof.Rows
inductive spLTakenI (vs : List V) (H : Hp) (Q : VK) (u3_ : XK) : Prop
  | mk (d : Dc) (t : Addr) (xs : List V) (x0 : vs = [d.val, .ref t]) (x1 : d.At H) (x2 : d.size ≤ 24) (x3 : H t = some (.tup xs)) (x4 : (∀ z ∈ xs, Dc.StepV z)) (x5 : (∀ us lv e x, xs = us ++ [lv] → d.sub us = some e → e.sub [lv] = some x → ∀ (g : Addr) (d' x' : Dc) (H' : Hp), FreshL H H' [d', x'] → H' g = some (.tup [d'.val, x'.val]) → Dc.Eqv (d.setP us (e.delN lv)) d' → Dc.Eqv x x' → Q (.ref g) H')) (x6 : ((xs = [] ∨ d.sub xs = none) → ∀ H', Same H H' → Q .non H')) : spLTakenI  vs H Q u3_
inductive spAskedTI (vs : List V) (H : Hp) (Q : VK) (u3_ : XK) : Prop
  | mk (d : Dc) (t : Addr) (xs : List V) (x0 : vs = [d.val, .ref t]) (x1 : d.At H) (x2 : d.size ≤ 24) (x3 : H t = some (.tup xs)) (x4 : (∀ z ∈ xs, Dc.StepV z)) (x5 : (∀ us lv e x, xs = us ++ [lv] → d.sub us = some e → e.sub [lv] = some x → ∀ (g g0 : Addr) (d' x' : Dc) (H' : Hp), FreshL H H' [d', x'] → H' g0 = some (.tup [d'.val, x'.val]) → H' g = some (.tup [.ref g0]) → Dc.Eqv (d.setP us (e.delN lv)) d' → Dc.Eqv x x' → Q (.ref g) H')) (x6 : ((xs = [] ∨ d.sub xs = none) → ∀ H', Same H H' → Q .non H')) : spAskedTI  vs H Q u3_
inductive spRightTI (vs : List V) (H : Hp) (Q : VK) (u3_ : XK) : Prop
  | mk (d : Dc) (t : Addr) (xs : List V) (x0 : vs = [d.val, .ref t]) (x1 : d.At H) (x2 : d.size ≤ 24) (x3 : H t = some (.tup xs)) (x4 : (∀ z ∈ xs, Dc.StepV z)) (x5 : ∀ H', Same H H' → Q (.bl true) H') : spRightTI  vs H Q u3_
theorem FreshL.down {H H1 H2 : Hp} {ds : List Dc} (D : FreshL H1 H2 ds) (s : Same H H1) : FreshL H H2 ds := ⟨s.trans D.same, D.at_, D.nd, D.own, fun a ha => s.free (D.new a ha)⟩
end L2
namespace L2
open PySem PySem.Spec PyProof.Rows
inductive spChanged1I (C : Addr) (vs : List V) (H : Hp) (Q : VK) (E : XK) : Prop
  | mk (d : Dc) (v : Dc) (t : Addr) (xs : List V) (x0 : vs = [d.val, .ref t, v.val]) (x1 : d.At H) (x2 : d.slim) (x3 : d.size ≤ 800) (x4 : v.At H) (x5 : v.slim) (x6 : v.size ≤ 900) (x7 : H t = some (.tup xs)) (x8 : (∀ z ∈ xs, Dc.StepV z)) (x9 : (∀ x, d.sub xs = some x → ∀ (d' : Dc) (H' : Hp), Fresh H H' d' → Dc.Eqv (d.setP xs v) d' → Q d'.val H')) (x10 : (d.sub xs = none → ∀ H', Same H H' → E (.ref C) none H')) : spChanged1I C vs H Q E
inductive spLChangedI (vs : List V) (H : Hp) (Q : VK) (u3_ : XK) : Prop
  | mk (d : Dc) (v : Dc) (t : Addr) (xs : List V) (x0 : vs = [d.val, .ref t, v.val]) (x1 : d.At H) (x2 : d.size ≤ 24) (x3 : v.At H) (x4 : v.size ≤ 24) (x5 : H t = some (.tup xs)) (x6 : (∀ z ∈ xs, Dc.StepV z)) (x7 : (∀ x, d.sub xs = some x → ∀ (g : Addr) (d' : Dc) (H' : Hp), Fresh H H' d' → H' g = some (.tup [d'.val]) → Dc.Eqv (d.setP xs v) d' → Q (.ref g) H')) (x8 : (d.sub xs = none → ∀ H', Same H H' → Q .non H')) : spLChangedI  vs H Q u3_
end L2

set_option Elab.async false
set_option linter.all false
set_option maxRecDepth 100000
set_option maxHeartbeats 4000000
namespace L2
open PySem PySem.Spec PyProof.Rows
section
variable {prg : Program} {wd : World} {Ar : Around} {Ex : Value → Shared → Prop} {hp : Heap} {gn : Array GenState} {dr : Drawn} {tk : Nat} {sy : OsState}
variable {nm qn : Str} {C N : Addr} {bs tl bmB : List Value} {hdc : Bool} {sn : List Str} {sb : List Value} {ab : Bool} {cl : Option Bool} {dd : Option Addr} {k0 k1 k2 k3 k5 : Option Value} {B newId initId : String}
abbrev rawExc (C t : Addr) : Obj := { cls := .ref C, data := .fields #[.ref t, .none, .none, .none, .bool false, .none] }
theorem type_call_own (F : ExcBaseFacts B newId initId bmB) (T : OwnTail hp bmB tl) {mN : Str → Option Value} {rest : List Value} {fI : Addr} {oI : Obj} {Q : Fin → Shared → Prop}
    (hC : hp.get? C = some (excClassObj nm qn C N bs tl hdc sn sb ab cl dd k0 k1 k2 k3 k5 newId)) (hn : hp.Ns N mN) (hi : mN "__init__" = some (.ref fI)) (hf : hp.get? fI = some oI) (hc : oI.cls = .type "function") (hz : rest.length ≤ sizeLine)
    (hq : ∀ h' e, Heap.MadeExcOf hp h' e (.ref C) rest → wpAny (model prg wd) Ar (call (.ref fI) (.ref e :: rest)) (fun r s' => r = .none ∧ Q (.done (.ret (.ref e))) s') Ex ⟨h', gn, dr, tk, sy⟩) :
    wpAny (model prg wd) Ar (Builtin.«type.__call__» ⟨.ref C :: rest, []⟩) Q Ex ⟨hp, gn, dr, tk, sy⟩ := by
  repeat (first | with_reducible refine wpAny_loadPart_at hC ?_ | with_reducible refine wpAny_madeBy_exc hC ?_ | wp_step)
  refine codeAny_call_builtin_code (Code.quiet_builtin _ F.quiet) (wpAny_check_new_subT F T hC ?_)
  refine codeAny_exc_new_subT F T hC ?_ hz
  show wpAny _ _ _ _ _ _
  obtain ⟨h1, eh1⟩ : ∃ h1, h1 = (hp.push { cls := .type "tuple", data := .seq rest.toArray }).push (rawExc C hp.objs.size) := ⟨_, rfl⟩
  have kp : ∀ b o, hp.get? b = some o → h1.get? b = some o := fun b o e => by rw [eh1]; exact Heap.get?_push_of_some _ (Heap.get?_push_of_some _ e)
  have hg : h1.get? (hp.objs.size + 1) = some (rawExc C hp.objs.size) := by rw [eh1]; heap_get
  have ht : h1.get? hp.objs.size = some { cls := .type "tuple", data := .seq rest.toArray } := by rw [eh1]; exact Heap.get?_push_of_some _ (Heap.get?_push_at rfl rfl)
  rw [← eh1]
  have hC1 := kp _ _ hC
  have hn1 : h1.Ns N mN := let ⟨o, es, ep, e, r⟩ := hn; ⟨o, es, ep, kp _ _ e, r⟩
  have T1 := T.keeps kp
  have hcC : (Value.ref C :: tl).contains (.ref C) = true := by simp
  unfold isInstance
  repeat (first | with_reducible refine wpAny_loadPart_at hg ?_ | (with_reducible refine wpAny_isSubtype_exc hC1 ?_; rw [hcC]) | wp_step)
  show wpAny _ _ (typeLookup (.ref C) _) _ _ _
  refine wpAny_typeLookup_tail hC1 hn1 T1 F.mroIs F.init.lookup ?_
  rw [hi]
  refine wpAny_holding (wpAny_bind ?_)
  unfold bindSpecial
  refine wpAny_bind (wpAny_typeOf (T := "function") ⟨_, kp _ _ hf, hc⟩ ?_)
  rw [if_pos (by decide)]
  refine wpAny_pure (wpAny_bind (wpAny_mono (hq h1 (hp.objs.size + 1) ⟨kp, Heap.get?_none_of_le (Nat.le_succ _), hp.objs.size, hg, Heap.get?_none_of_le (Nat.le_refl _), ht⟩) (fun r s' hr => ?_) fun _ _ x => x))
  obtain ⟨rfl, hQ⟩ := hr
  wp_walk
  exact hQ
theorem call_own (F : ExcBaseFacts B newId initId bmB) (T : OwnTail hp bmB tl) {mN : Str → Option Value} {rest : List Value} {fI : Addr} {oI : Obj} {Q : Value → Shared → Prop}
    (hC : hp.get? C = some (excClassObj nm qn C N bs tl hdc sn sb ab cl dd k0 k1 k2 k3 k5 newId)) (hn : hp.Ns N mN) (hi : mN "__init__" = some (.ref fI)) (hf : hp.get? fI = some oI) (hc : oI.cls = .type "function") (hz : rest.length ≤ sizeLine)
    (hq : ∀ h' e, Heap.MadeExcOf hp h' e (.ref C) rest → wpAny (model prg wd) (Ar.under (.builtin "type.__call__" ⟨.ref C :: rest, []⟩)) (call (.ref fI) (.ref e :: rest)) (fun r s' => r = .none ∧ Q (.ref e) s') Ex ⟨h', gn, dr, tk, sy⟩) :
    wpAny (model prg wd) Ar (call (.ref C) rest) Q Ex ⟨hp, gn, dr, tk, sy⟩ := by
  have f1 := tc_lookup
  have f2 := tc_bind (.ref C)
  have hT : (⟨hp, gn, dr, tk, sy⟩ : Shared).TypeIs (.ref C) "type" := ⟨_, hC, rfl⟩
  refine wpAny_call (codeAny_of_tree ?_)
  show wpAny _ _ (callAny (.ref C) _) _ _ _
  repeat (any_goals (first | assumption | with_reducible refine wpAny_loadPart_at hC ?_ | wp_step))
  refine ⟨rfl, ?_⟩
  exact codeAny_call_builtin_at (Code.quiet_builtin _ (by decide +kernel)) entry_typeCall (wpAny_check_type_call_sub hC (type_call_own F T hC hn hi hf hc hz fun h' e hm => hq h' e hm))
end
end L2
namespace L2
open PySem PySem.Spec PyProof.Rows PySem.W PySem.Builtin PySem.Builtin.ObjectAttr
def overV : List Value → Bool
  | .ref _ :: r => overV r
  | l => l == bmV
theorem refuse_overV (self : Value) : ∀ {l : List Value}, overV l = true → refuseLoop self "__setattr__" l = pure ()
  | .ref c :: r, e => by rw [refuseLoop_ref]; exact refuse_overV self e
  | [], e => by cases e
  | .none :: r, e => by cases e
  | .type n :: r, e => by
    have := beq_iff_eq.mp (show (Value.type n :: r == bmV) = true from e)
    rw [this]
    exact PySem.F.store_ValueError.passes self
  | .bool _ :: r, e => by have := beq_iff_eq.mp (show (_ == bmV) = true from e); cases this
  | .int _ _ :: r, e => by have := beq_iff_eq.mp (show (_ == bmV) = true from e); cases this
  | .str _ _ :: r, e => by have := beq_iff_eq.mp (show (_ == bmV) = true from e); cases this
  | .bytes _ _ :: r, e => by have := beq_iff_eq.mp (show (_ == bmV) = true from e); cases this
  | .float _ _ :: r, e => by have := beq_iff_eq.mp (show (_ == bmV) = true from e); cases this
  | .builtin _ :: r, e => by have := beq_iff_eq.mp (show (_ == bmV) = true from e); cases this
theorem overV_has : ∀ {l : List Value}, overV l = true → l.contains (.type "object") = true
  | .ref c :: r, e => by rw [List.contains_cons, overV_has (l := r) e, Bool.or_true]
  | [], e => by cases e
  | .type n :: r, e => by rw [beq_iff_eq.mp (show (Value.type n :: r == bmV) = true from e)]; decide
  | .none :: r, e => by cases e
  | .bool _ :: r, e => by have := beq_iff_eq.mp (show (_ == bmV) = true from e); cases this
  | .int _ _ :: r, e => by have := beq_iff_eq.mp (show (_ == bmV) = true from e); cases this
  | .str _ _ :: r, e => by have := beq_iff_eq.mp (show (_ == bmV) = true from e); cases this
  | .bytes _ _ :: r, e => by have := beq_iff_eq.mp (show (_ == bmV) = true from e); cases this
  | .float _ _ :: r, e => by have := beq_iff_eq.mp (show (_ == bmV) = true from e); cases this
  | .builtin _ :: r, e => by have := beq_iff_eq.mp (show (_ == bmV) = true from e); cases this
section
variable {prg : Program} {wd : World} {Ar : Around} {R : Result → Shared → Prop} {K : PySem.W.Frag} {s : Shared} {x C : Addr} {name : Str} {v : Value} {mA : Str → Option Value} {ns : List Str}
theorem osa_head {tk : Tok} {o : Obj} {od : Option Obj} (X : K.In s.heap) (J : PySem.W.InstAt s.heap x o C od) (hp : (clsIn K C).any (fun cd => overV cd.mro) = true) (hh : (clsIn K C).any (·.hasDict) = true) (ht : takerIn K C name = some none)
    (hq : ∀ b cd c1 d1 sl1, cd.hasDict = true → s.heap.get? C = some ⟨c1, d1, .cls cd, sl1⟩ → wpAny (model prg wd) Ar.in1 (storeInOwnDict (.ref x) (.ref C) (.str name tk) name v b) (fun fin s' => match fin with | .done f => R (.ok f) s' | .again c' => c'.quiet = true ∧ codeAny (model prg wd) Ar c' R s') (fun e s' => R (.error e) s') s) :
    codeAny (model prg wd) Ar (.call (.builtin "object.__setattr__") ⟨[.ref x, .str name tk, v], []⟩) R s := by
  obtain ⟨cd, hc, ho⟩ := any_some hp
  have SF := PySem.F.store_object
  have ne : cd.mro.isEmpty = false := by
    cases q : cd.mro with
    | nil => rw [q] at ho; cases ho
    | cons _ _ => rfl
  have isO : Looks (model prg wd) s.heap (isInstance (.ref x) (.type "object")) true := J.type.andThen (looks_mroIn X (by unfold mroIn; rw [hc, Option.bind_some, if_neg (by rw [ne]; decide), overV_has ho]))
  refine codeAny_call_builtin SF.slot.plain SF.entry (@check_slot (model prg wd) _ _ s "object.__setattr__" "object" "__setattr__" (.ref x) [.str name tk, v] [] _ SF.kind SF.split isO (SF.args (.ref x) (.str name tk) v) ?_)
  obtain ⟨attr, ha, hr⟩ := Option.bind_eq_some_iff.mp ht
  have mro : Looks (model prg wd) s.heap (mroOf (.ref C)) cd.mro := (looks_clsIn X hc).andThen .now
  have tk0 : Looks (model prg wd) s.heap (storeTaker? attr) none := by
    cases attr with
    | none => exact .now
    | some a =>
      obtain ⟨b, hb, e⟩ := Option.map_eq_some_iff.mp hr
      cases b with
      | true => cases e
      | false => exact (looks_takesIn X hb).andThen .now
  rw [osa_eq, refuse_eq]
  refine wpAny_bind (wpAny_bind (J.type.here (wpAny_bind (mro.here ?_))))
  rw [refuse_overV _ ho]
  refine wpAny_pure (wpAny_bind (J.type.here (wpAny_bind ((looks_findIn X ha).here (wpAny_bind (tk0.here ?_))))))
  dsimp only
  have hd' : cd.hasDict = true := by
    obtain ⟨cd2, q1, q2⟩ := any_some hh
    rw [hc] at q1
    cases q1
    exact q2
  obtain ⟨c1, d1, sl1, hC⟩ : ∃ c1 d1 sl1, s.heap.get? C = some ⟨c1, d1, .cls cd, sl1⟩ := by
    unfold clsIn at hc
    split at hc
    · rename_i c' d' cd' sl' q
      cases hc
      exact ⟨_, _, _, X _ _ q⟩
    · cases hc
  exact hq _ cd c1 d1 sl1 hd' hC
theorem notCls_ne {o : Obj} (h : PySem.W.notCls o = true) (c : ClassData) : o.data ≠ .cls c := fun q => by unfold PySem.W.notCls at h; rw [q] at h; cases h
theorem osa_first {tk : Tok} {o : Obj} (X : K.In s.heap) (J : PySem.W.InstAt s.heap x o C none) (hp : (clsIn K C).any (fun cd => overV cd.mro) = true) (hh : (clsIn K C).any (·.hasDict) = true) (ht : takerIn K C name = some none)
    (hq : ∀ h' tk', h'.get? x = some { o with dict := some s.heap.objs.size } → h'.Ns1 s.heap.objs.size (fun y => if y = name then some v else none) → (∀ b u, b ≠ x → s.heap.get? b = some u → h'.get? b = some u) → R (.ok (.ret .none)) { s with heap := h', toks := tk' }) :
    codeAny (model prg wd) Ar (.call (.builtin "object.__setattr__") ⟨[.ref x, .str name tk, v], []⟩) R s := by
  refine osa_head X J hp hh ht fun b0 cd c1 d1 sl1 hd' hC => ?_
  have hx := J.at_
  have hcl := J.cls
  have dn : o.dict = none := by
    have := J.dict
    cases q : o.dict with
    | none => rfl
    | some _ => rw [q] at this; exact this.elim
  have lx := Heap.lt_size hx
  unfold storeInOwnDict
  repeat (first | (with_reducible refine wpAny_loadPart_at hx ?_; rw [hcl]) | with_reducible refine wpAny_load hC ?_ | wp_step)
  rw [dn]
  dsimp only
  rw [if_neg (by simp [typeHasDict])]
  split
  · rename_i c q
    exact absurd q (notCls_ne J.no c)
  · have hx1 : (s.heap.push { cls := .type "dict", data := .dict #[] }).get? x = some o := Heap.get?_push_of_some _ hx
    have xs : x ≠ s.heap.objs.size := Nat.ne_of_lt lx
    refine wpAny_bind (wpAny_alloc' (wpAny_bind (wpAny_update' hx1 (wpAny_pure ?_))))
    obtain ⟨h1, eh1⟩ : ∃ h1, h1 = (s.heap.push { cls := .type "dict", data := .dict #[] }).update x fun o => { cls := o.cls, dict := some s.heap.objs.size, data := o.data, slots := o.slots } := ⟨_, rfl⟩
    have gd : h1.get? s.heap.objs.size = some { cls := .type "dict", data := .dict #[] } := by rw [eh1]; exact (Heap.get?_update_ne _ _ _ _ xs.symm).trans (Heap.get?_push_at rfl rfl)
    have gx : h1.get? x = some { o with dict := some s.heap.objs.size } := by
      rw [eh1]
      refine Heap.get?_update_self _ hx1 ?_
      have fr := (Heap.get?_some_iff.mp hx).2
      obtain ⟨a1, a2, a3, a4⟩ := o
      cases a3 <;> first | rfl | exact fr
    have go : ∀ b u, b ≠ x → s.heap.get? b = some u → h1.get? b = some u := fun b u hb e => by rw [eh1]; exact (Heap.get?_update_ne _ _ _ _ hb).trans (Heap.get?_push_of_some _ e)
    have nd : h1.Ns s.heap.objs.size (fun _ => none) := ⟨_, #[], _, gd, rfl, fun e he => absurd he (by simp), fun _ => rfl⟩
    rw [← eh1]
    show wpAny _ _ (storeInDict s.heap.objs.size (.str name tk) name v) _ _ _
    unfold storeInDict newKeyGuard
    refine wpAny_bind (wpAny_pure (wpAny_bind (wpAny_nsSet1 (Heap.Ns1.of_empty nd) fun h' hn' hs => ?_)))
    obtain ⟨oD, eD, pD, hoD, hdD, hcD⟩ := hn'.count (Within.cons name v Within.nil)
    refine wpAny_bind (wpAny_lookBehind hoD (by rw [hdD]; exact pastItsLine_dict (Nat.le_trans hcD (by rw [List.length_cons, List.length_nil, sizeLine_eq]; omega))) ?_)
    wp_walk
    exact hq h' _ ((hs.2 x xs).trans gx) hn' fun b u hb e => (hs.2 b (Nat.ne_of_lt (Heap.lt_size e))).trans (go b u hb e)
theorem osa_more {tk : Tok} {o od : Obj} {dx : Addr} (X : K.In s.heap) (J : PySem.W.InstAt s.heap x o C (some od)) (edx : o.dict = some dx) (nex : dx ≠ x) (hns : s.heap.Ns1 dx mA) (hp : (clsIn K C).any (fun cd => overV cd.mro) = true) (hh : (clsIn K C).any (·.hasDict) = true) (ht : takerIn K C name = some none) (hw : Within mA ns) (hz : ns.length ≤ 1000)
    (hq : ∀ h' tk', h'.Ns1 dx (fun y => if y = name then some v else mA y) → (∀ b u, b ≠ dx → s.heap.get? b = some u → h'.get? b = some u) → R (.ok (.ret .none)) { s with heap := h', toks := tk' }) :
    codeAny (model prg wd) Ar (.call (.builtin "object.__setattr__") ⟨[.ref x, .str name tk, v], []⟩) R s := by
  refine osa_head X J hp hh ht fun b0 cd c1 d1 sl1 hd' hC => ?_
  have hx := J.at_
  have hcl := J.cls
  unfold storeInOwnDict
  repeat (first | (with_reducible refine wpAny_loadPart_at hx ?_; rw [hcl]) | with_reducible refine wpAny_load hC ?_ | wp_step)
  rw [edx]
  refine wpAny_pure ?_
  show wpAny _ _ (storeInDict dx (.str name tk) name v) _ _ _
  unfold storeInDict newKeyGuard
  refine wpAny_bind (wpAny_pure (wpAny_bind (wpAny_nsSet1 hns fun h' hn' hs => ?_)))
  obtain ⟨oD, eD, pD, hoD, hdD, hcD⟩ := hn'.count (Within.cons name v hw)
  refine wpAny_bind (wpAny_lookBehind hoD (by rw [hdD]; exact pastItsLine_dict (Nat.le_trans hcD (by rw [List.length_cons, sizeLine_eq]; omega))) ?_)
  wp_walk
  exact hq h' _ hn' fun b u hb e => (hs.2 b hb).trans e
end
end L2
namespace L2
open PySem PySem.Spec PyProof.Rows PySem.W PySem.Builtin PySem.Builtin.ObjectAttr
def excAnyO (C : Addr) (o : Obj) : Bool := match o.data with
  | .cls cd => o.cls == .type "type" && (cd.mro.head? == some (.ref C) && (cd.mro.tail.contains (.type "BaseException") && (o.slots.size == 6 && (o.slots[4]? == some (some (.builtin "ValueError.__new__")) && !cd.hasDel))))
  | _ => false
def excInA (K : PySem.W.Frag) (C : Addr) : Bool := (K.lookup C).any (excAnyO C)
theorem cls_any {K : PySem.W.Frag} {h : Heap} {C : Addr} (X : K.In h) (q : excInA K C = true) : ∃ tl N nm qn bs hdc sn sb ab cl dd k0 k1 k2 k3 k5, h.get? C = some (excClassObj nm qn C N bs tl hdc sn sb ab cl dd k0 k1 k2 k3 k5 "ValueError.__new__") ∧ tl.contains (.type "BaseException") = true := by
  obtain ⟨o, ho, q⟩ := any_some q
  obtain ⟨c, dd, data, sl⟩ := o
  cases data with
  | cls cd =>
    obtain ⟨nm, bs, mro, ns, qn, hd, sn, sub, ab, col, del⟩ := cd
    simp only [excAnyO, Bool.and_eq_true, beq_iff_eq, Bool.not_eq_true'] at q
    obtain ⟨h1, h2, h3, h4, h5, h6⟩ := q
    cases mro with
    | nil => cases h2
    | cons v bm =>
      cases h2
      obtain ⟨l⟩ := sl
      obtain ⟨k0, k1, k2, k3, k4, k5, rfl⟩ := list6 (l := l) h4
      cases h5
      subst h1 h6
      exact ⟨bm, ns, nm, qn, bs, hd, sn, sub, ab, col, dd, k0, k1, k2, k3, k5, X _ _ ho, h3⟩
  | _ => cases q
structure FKit (K : PySem.W.Frag) (D : Addr) : Prop where
  q : excInA K D = true
  ga : PySem.W.findIn K (.ref D) "__getattribute__" = some (some (.builtin "BaseException.__getattribute__"))
  gn : PySem.W.findIn K (.ref D) "__getattr__" = some none
section
variable {prg : Program} {wd : World} {Ar : Around} {K : PySem.W.Frag} {s : Shared} {x D : Addr} {ox : Obj} {od : Option Obj} {name : Str} {v : Value}
theorem excf_call {R : Result → Shared → Prop} {tk : Tok} (X : K.In s.heap) (I : PySem.W.InstAt s.heap x ox D od) (k : FKit K D) (hf : PySem.W.findObj K D od name = some (.value v)) (h : R (Except.ok (Flow.ret v)) s) :
    codeAny (model prg wd) Ar (Code.call (Value.builtin "BaseException.__getattribute__") { pos := [Value.ref x, Value.str name tk] }) R s := by
  obtain ⟨hh, g, d, t, os⟩ := s
  obtain ⟨tl, N, nm, qn, bs, hdct, sn, sub, ab, col, dd, k0, k1, k2, k3, k5, hC, hB⟩ := cls_any X k.q
  refine codeAny_call_builtin PySem.F.attrBase_ValueError.ga.plain PySem.F.entry_bexc_ga ?_
  have ck := @wpAny_check_slot_inst Ar.in1 (fun e s' => R (Except.error e) s') hh g d t os nm qn D N x bs tl hdct sn sub ab col dd k0 k1 k2 k3 k5 "ValueError.__new__" (model prg wd) "BaseException.__getattribute__" "BaseException" "__getattribute__" ox [Value.str name tk]
  refine ck kd1 kd2 (PySem.F.args_bexc_ga _ _) hB I.at_ I.cls hC ?_
  clear ck
  unfold Builtin.«object.__getattribute__» slotArgs
  generalize hfnd : Builtin.ObjectAttr.find = fnd
  generalize hbnd : Builtin.ObjectAttr.bindTo = bnd
  repeat (first | (with_reducible refine wpAny_loadPart_at I.at_ ?_; rw [I.cls]) | wp_step)
  subst hfnd
  refine (PySem.W.looks_find X I hf) _ _ _ _ (fun _ _ e => e) ?_
  dsimp only
  exact wpAny_pure h
theorem excf_get {E : Value → Shared → Prop} {Q : Value → Shared → Prop} {ex : Bool} (X : K.In s.heap) (I : PySem.W.InstAt s.heap x ox D od) (k : FKit K D) (hf : PySem.W.findObj K D od name = some (.value v)) (hv : PySem.W.handedIn v = true) (h : Q v { s with toks := s.toks + 1 }) :
    wpAny (model prg wd) Ar (getAttr (Value.ref x) name ex) Q E s := by
  unfold getAttr
  refine wpAny_bind (wpAny_mkText ?_)
  unfold getAttrBy
  refine wpAny_holding (wpAny_bind ((I.type (h := s.heap)) _ _ _ _ (fun _ _ e => e) ?_))
  refine wpAny_bind ((PySem.W.looks_findIn X k.ga) _ _ _ _ (fun _ _ e => e) ?_)
  dsimp only
  have e0 : (Value.builtin "BaseException.__getattribute__" == Value.builtin "object.__getattribute__") = false := by decide
  rw [e0, Bool.and_false, if_neg Bool.false_ne_true]
  unfold getAttrByItsOwn
  refine wpAny_bind ((PySem.W.looks_hook X (mc := .ref D) (r := none) k.gn) _ _ _ _ (fun _ _ e => e) ?_)
  refine wpAny_bind (wpAny_attempt (wpAny_holding ?_))
  unfold callGetattribute boundAndCalled
  rw [if_neg (by rw [show onTheHeap (Value.builtin "BaseException.__getattribute__") = false from rfl, Bool.and_false]; decide), PySem.F.attrBase_ValueError.ga.bind]
  refine wpAny_bind (wpAny_pure ?_)
  refine wpAny_call (excf_call (s := { s with toks := s.toks + 1 }) X I k hf ?_)
  exact PySem.W.handed_on hv h
end
end L2

set_option Elab.async false
set_option linter.all false
set_option maxRecDepth 100000
set_option maxHeartbeats 4000000
namespace L2
open PySem PySem.Spec PyProof.Rows
section
variable {P : Program} {w : World} {H H' : Hp} {h h' h0 : Heap} {a e T C : Addr} {o : HO}
structure FlyD (d : Option Addr) (H : Hp) (h0 h : Heap) (e C : Addr) (oe : Obj) (vs : Array Value) (T : Addr) : Prop where
  at_ : h.get? e = some oe
  cls : oe.cls = .ref C
  dict : oe.dict = d
  data : oe.data = .fields vs
  sz : 1 < vs.size
  one : vs[1]? = some (.ref T)
  ne : T ≠ e
  ent : Entry h T .none
  He : H e = none
  HT : H T = none
  ne0 : h0.get? e = none
  nT0 : h0.get? T = none
def CXD (P : Program) (w : World) : CXT := fun outer H s E e s' => ∃ (e0 C : Addr) (d : Option Addr) (H' : Hp), e = .ref e0 ∧ s'.os = s.os ∧ AllBare s'.gens ∧ Un (frs outer) [] H H' s.heap s'.heap ∧ HOk P w H' s'.heap ∧ (∃ oe vs T, FlyD d H' s.heap s'.heap e0 C oe vs T) ∧ E (.ref C) d H'
theorem FlyD.next {d : Option Addr} {oe : Obj} {vs : Array Value} {T' : Addr} (cls : oe.cls = .ref C) (dict : oe.dict = d) (data : oe.data = .fields vs) (sz : 1 < vs.size) (he : H e = none) (he0 : h0.get? e = none) (hok : HOk P w H h) (th : ∀ b o, h0.get? b = some o → ∃ o', h.get? b = some o') (hT : h.get? T' = none) (hin : ∃ o, h.get? e = some o)
    (h1 : h'.get? e = some (oe.mapFields (·.setIfInBounds 1 (.ref T')))) (h2 : Entry h' T' .none) : ∃ oe vs T, FlyD d H h0 h' e C oe vs T := by
  have n0 : h0.get? T' = none := by
    cases z : h0.get? T' with
    | none => rfl
    | some o =>
      obtain ⟨o', e'⟩ := th T' o z
      rw [hT] at e'
      cases e'
  refine ⟨_, _, T', h1, (Obj.cls_mapFields _ _).trans cls, ?_, Obj.data_mapFields data _, by simpa using sz, by simp [sz], fun z => ?_, h2, he, hok.none_of hT, he0, n0⟩
  · obtain ⟨c, d, dt, sl⟩ := oe
    cases data
    exact dict
  · obtain ⟨o, q⟩ := hin
    rw [← z, hT] at q
    cases q
end
section
variable {X : Cx} {pins : List (Addr × Obj)} {σ : St} {H : Hp} {s s' : Shared} {E : XK} {e : Value}
theorem leave_madeD {M : Model} {E' : Value → Shared → Prop} {C e0 t : Addr} {oe : Obj} {d : Option Addr} (hst : X.stack = X.env :: X.outer) (hfr : X.env.frame = some X.env.locals) (hex : X.ex = []) (I : Inv X pins σ H s)
    (he : s.heap.get? e0 = some oe) (hc : oe.cls = .ref C) (hd : oe.dict = d) (hdat : oe.data = .fields #[.ref t, .none, .none, .none, .bool false, .none]) (hH : H e0 = none) (h0 : X.s₀.heap.get? e0 = none) (q : E (.ref C) d H) :
    wpAny M X.A (leaving X.env (.ref e0)) (fun _ s'' => CXD X.prog X.w X.outer X.H₀ X.s₀ E (.ref e0) s'') E' s := by
  have fr : s.heap.FunFrames X.base (X.env :: X.outer) := by rw [← hst]; exact I.stack
  have ub : Un (frs X.outer) [] X.H₀ H X.s₀.heap s.heap := by
    have := I.base
    rw [hex] at this
    exact this
  refine leaveX (s := s) (S := []) (by rw [← hst]; exact I.ok.frames) fr hfr he hdat (by simp) (.inl ⟨rfl, rfl⟩) fun h2 T' st n1 n2 n3 => ?_
  rw [← hst] at st
  refine ⟨e0, C, d, H, rfl, I.os, I.bare, ub.stp st (fun b hb => by rw [List.mem_singleton.mp hb]; exact h0) (fun b hb => ?_), I.hok.stp st (fun b hb => by rw [List.mem_singleton.mp hb]; exact hH) I.stkFree,
    FlyD.next hc hd hdat (by simp) hH h0 I.hok (fun b o z => ub.there b o z (by simp)) n1 ⟨_, he⟩ n2 n3, q⟩
  rcases List.mem_cons.mp (I.stkSub b hb) with z | z
  · right
    rw [z]
    exact Heap.get?_none_of_le I.ok.above
  · exact .inl z
theorem seenD {M : Model} {E1 : Value → Shared → Prop} {G : Shared → Prop} (hst : X.stack = X.env :: X.outer) (hfr : X.env.frame = some X.env.locals) (I : Inv X pins σ H s) (h : CXD X.prog X.w X.stack H s E e s')
    (k : ∀ (ea C : Addr) (d : Option Addr) (H' : Hp) (h5 : Heap) (oe : Obj) (vs : Array Value) (T : Addr), e = .ref ea → E (.ref C) d H' → FlyD d H' s.heap h5 ea C oe vs T → (∀ h6 : Heap, (∀ b, b ≠ T → h6.get? b = h5.get? b) → Entry h6 T .none → Inv X pins σ H' { s' with heap := h6 }) → G { s' with heap := h5 }) :
    wpAny M X.A (noteFrame e X.env) (fun _ s₂ => wpAny M X.A (setFlight e none) (fun _ s₃ => G s₃) E1 s₂) E1 s' := by
  obtain ⟨e0, C, d, H', rfl, os, bare, un, hok, ⟨oe, vs, T, F⟩, q⟩ := h
  have I' : Inv X pins σ H' s' := I.call' os un hok bare (fun b z => absurd z (by simp))
  have fr := I'.stack
  rw [hst] at fr
  refine noteX (by rw [← hst]; exact I.ok.frames) fr hfr F.at_ F.data F.sz (.inr ⟨T, F.one, F.ne, F.ent, rfl⟩) fun h4 T' st n1 n2 n3 => ?_
  have hTe : e0 ≠ T' := fun z => by rw [← z, F.at_] at n1; cases n1
  refine landX (s := { s' with heap := h4 }) n2 (Obj.data_mapFields F.data _) (T := T') (by simp [F.sz]) n3 fun h5 k1 k2 => ?_
  rw [← hst] at st
  obtain ⟨oe', vs', T2, F'⟩ := FlyD.next (h := s'.heap) (h' := h5) F.cls F.dict F.data F.sz F.He F.ne0 hok (fun b o z => un.there b o z (by simp)) n1 ⟨_, F.at_⟩ ((k1 e0 hTe).trans n2) k2
  have eT : T2 = T' := by
    have z := F'.at_
    rw [(k1 e0 hTe).trans n2] at z
    cases z
    have z1 := F'.data
    rw [Obj.data_mapFields F.data] at z1
    cases z1
    have z2 := F'.one
    simp [F.sz] at z2
    exact z2.symm
  subst eT
  refine k e0 C d H' h5 oe' vs' T2 rfl q F' fun h6 a1 a2 => ?_
  have new : ∀ b ∈ [e0, T], s.heap.get? b = none ∧ H' b = none := fun b hb => by
    simp only [List.mem_cons, List.not_mem_nil, or_false] at hb
    rcases hb with rfl | rfl
    · exact ⟨F.ne0, F.He⟩
    · exact ⟨F.nT0, F.HT⟩
  have st6 : Stp [e0, T] (frs X.stack) s'.heap h6 := ⟨fun b o q hS hf => by
      have hb : b ≠ T2 := fun z => by rw [z, n1] at q; cases q
      rw [a1 b hb, k1 b hb]
      exact st.keep b o q hS hf, fun b o q hf => by
      have hb : b ≠ T2 := fun z => by rw [z, n1] at q; cases q
      obtain ⟨sl, z⟩ := st.slot b o q hf
      exact ⟨sl, by rw [a1 b hb, k1 b hb]; exact z⟩⟩
  exact I.call' (s' := { s' with heap := h6 }) os (un.stp st6 (fun b hb => (new b hb).1) fun b hb => .inl hb) (hok.stp st6 (fun b hb => (new b hb).2) I'.stkFree) bare (fun b z => absurd z (by simp))
end
section
variable {P : Program} {w : World} {K : PySem.W.Frag} {mg : Str → Option Value} {base : Heap}
end
end L2

set_option Elab.async false
set_option linter.all false
set_option maxRecDepth 100000
set_option maxHeartbeats 4000000
namespace L2
open PySem PySem.Spec PyProof.Rows
def ExcDP (ea C : Addr) (d : Option Addr) (h : Heap) : Prop := ∃ (oe : Obj) (t : Addr), h.get? ea = some oe ∧ oe.cls = .ref C ∧ oe.dict = d ∧ oe.data = .fields #[.ref t, .none, .none, .none, .bool false, .none]
def ExcD (ea C : Addr) (d : Option Addr) : HO := .ext (ExcDP ea C d)
def XdP (dx : Addr) (fs : List (Str × V)) (h : Heap) : Prop := ∃ mA, h.Ns1 dx mA ∧ (∀ f, RelO (fs.lookup f) (mA f)) ∧ Within mA (fs.map (·.1))
def XdO (dx : Addr) (fs : List (Str × V)) : HO := .ext (XdP dx fs)
theorem ns1_keep {h1 h2 : Heap} {a : Addr} {m : Str → Option Value} (n : h1.Ns1 a m) (k : ∀ o, h1.get? a = some o → h2.get? a = some o) : h2.Ns1 a m := by
  obtain ⟨o, es, ep, e, r⟩ := n
  exact ⟨o, es, ep, k o e, r⟩
section
variable {X : Cx} {pins : List (Addr × Obj)} {σ : St} {H : Hp} {s : Shared} {a : Addr} {ob : Obj} {u : HO}
theorem Inv.adoptO (I : Inv X pins σ H s) (h1 : s.heap.get? a = some ob) (ok : ObjOk X.prog X.w (upd H a u) s.heap a u) (hH : H a = none) (h0 : X.s₀.heap.get? a = none) (nl : a ≠ X.env.locals) (nc : ∀ v, ob.data ≠ .cell v) (np : ∀ p ∈ X.pn ++ pins, p.1 ≠ a) :
    Inv X pins σ (upd H a u) s := by
  have old : ∀ {b : Addr} {o : HO}, H b = some o → upd H a u b = some o := fun q => by rw [upd_ne (ne_of_none q hH)]; exact q
  refine ⟨I.ok, I.os, I.bare, ⟨I.base.keep, I.base.slot, fun b o q n hx => ?_, I.base.there, fun b xs q => old (I.base.tups b xs q), fun b o u q => old (I.base.frzs b o u q), fun b ps q => ?_⟩, I.loc, I.cell, ?_, fun y c q => ?_, fun p hp => ?_, fun b o q => ?_, I.len⟩
  · have hb : b ≠ a := fun z => by rw [z, h0] at q; cases q
    rw [upd_ne hb]
    exact I.base.free b o q n hx
  · obtain ⟨more, z⟩ := I.base.tbls b ps q
    exact ⟨more, old z⟩
  · rw [upd_ne (Ne.symm nl)]
    exact I.free
  · have hb : c ≠ a := fun z => by
      obtain ⟨v, o, z1, z2⟩ := I.cell y c q
      rw [z, h1] at z1
      cases z1
      exact nc _ z2
    rw [upd_ne hb]
    exact I.freeC y c q
  · obtain ⟨q1, q2, q3⟩ := I.pin p hp
    exact ⟨q1, by rw [upd_ne (np p hp)]; exact q2, q3⟩
  · by_cases hb : b = a
    · subst hb
      rw [upd_same] at q
      cases q
      exact ok
    · rw [upd_ne hb] at q
      exact (I.hok b o q).stay (fun _ _ _ z => z) (fun _ z => old z) fun _ _ z => old z
end
structure SKit (K : PySem.W.Frag) (C : Addr) (f : Str) : Prop where
  sa : PySem.W.findIn K (.ref C) "__setattr__" = some (some (.builtin "object.__setattr__"))
  ov : (PySem.W.clsIn K C).any (fun cd => overV cd.mro) = true
  hd : (PySem.W.clsIn K C).any (·.hasDict) = true
  nt : PySem.W.takerIn K C f = some none
inductive SetF1 (K : PySem.W.Frag) (f : Str) (x y : V) (H : Hp) (N : Hp → Prop) : Prop
  | mk (ea C : Addr) (e : x = .ref ea) (h : H ea = some (ExcD ea C none)) (k : SKit K C f) (q : ∀ dx, H dx = none → dx ≠ ea → N (upd (upd H ea (ExcD ea C (some dx))) dx (XdO dx [(f, y)]))) : SetF1 K f x y H N
inductive SetF2 (K : PySem.W.Frag) (f : Str) (x y : V) (H : Hp) (N : Hp → Prop) : Prop
  | mk (ea C dx : Addr) (fs : List (Str × V)) (e : x = .ref ea) (h : H ea = some (ExcD ea C (some dx))) (h2 : H dx = some (XdO dx fs)) (n : dx ≠ ea) (l : fs.length ≤ 100) (k : SKit K C f) (q : N (upd H dx (XdO dx ((f, y) :: fs)))) : SetF2 K f x y H N
section
variable {X : Cx} {pins : List (Addr × Obj)} {σ : St} {H : Hp} {s : Shared} {A : Around} {E : Value → Shared → Prop} {f : Str} {y : V} {u : Value} {Q : Unit → Shared → Prop} {ea C dx : Addr}
theorem setF1_ok (hex : X.ex = []) (I : Inv X pins σ H s) (h : H ea = some (ExcD ea C none)) (k : SKit X.K C f) (ry : RelV y u) (q : ∀ dx s', H dx = none → dx ≠ ea → Inv X pins σ (upd (upd H ea (ExcD ea C (some dx))) dx (XdO dx [(f, y)])) s' → Q () s') :
    wpAny (model X.prog X.w) A (setAttr (.ref ea) f u) Q E s := by
  obtain ⟨⟨oe, t, he, hc, hd, hdat⟩, _⟩ := I.hok _ _ h
  have J : PySem.W.InstAt s.heap ea oe C none := ⟨he, hc, by unfold PySem.W.notCls; rw [hdat], by rw [hd]; trivial⟩
  refine PySem.W.set_plain I.kIn J k.sa (osa_first (s := { s with toks := s.toks + 1 }) I.kIn J k.ov k.hd k.nt fun h' tk' g1 g2 g3 => ?_)
  have nx : s.heap.objs.size ≠ ea := Ne.symm (Nat.ne_of_lt (Heap.lt_size he))
  have I1 := I.write (x := ea) (e := ea) (o := ExcD ea C (some s.heap.objs.size)) (h' := h') (t' := tk') (by rw [h]; exact True.intro) (.inl rfl) g3 ⟨_, g1⟩
    ⟨⟨_, t, g1, hc, rfl, hdat⟩, ⟨_, g1⟩, fun k1 k2 ⟨o', t', z1, z2⟩ kk => ⟨o', t', kk o' z1, z2⟩⟩
  obtain ⟨od, es, ep, god, hod, hrest⟩ := id g2
  have w1 : Within (fun z => if z = f then some u else none) [f] := Within.cons f u Within.nil
  refine q s.heap.objs.size _ I.fresh nx (I1.adoptO (ob := od) god ⟨⟨_, g2, fun g => ?_, w1⟩, ⟨_, god⟩, fun k1 k2 ⟨m, z1, z2⟩ kk => ⟨m, ns1_keep z1 kk, z2⟩⟩ (by rw [upd_ne nx]; exact I.fresh) ?_ ?_ (fun v z => by rw [hod] at z; cases z) fun p hp z => ?_)
  · show RelO (List.lookup g [(f, y)]) (if g = f then some u else none)
    by_cases e : g = f
    · subst e; simp; exact ry
    · have : (g == f) = false := by simpa using e
      simp [List.lookup_cons, this, e]; trivial
  · cases z : X.s₀.heap.get? s.heap.objs.size with
    | none => rfl
    | some o =>
      obtain ⟨o', e'⟩ := I.base.there _ o z (by rw [hex]; simp)
      exact absurd (Heap.lt_size e') (Nat.lt_irrefl _)
  · obtain ⟨m, ⟨o, es', ep', ho, _⟩, _⟩ := I.loc
    exact fun z => by rw [← z] at ho; exact absurd (Heap.lt_size ho) (Nat.lt_irrefl _)
  · have := (I.pin p hp).1
    rw [z] at this
    exact absurd (Heap.lt_size this) (Nat.lt_irrefl _)
theorem setF2_ok {fs : List (Str × V)} (I : Inv X pins σ H s) (h : H ea = some (ExcD ea C (some dx))) (h2 : H dx = some (XdO dx fs)) (n : dx ≠ ea) (l : fs.length ≤ 100) (k : SKit X.K C f) (ry : RelV y u) (q : ∀ s', Inv X pins σ (upd H dx (XdO dx ((f, y) :: fs))) s' → Q () s') :
    wpAny (model X.prog X.w) A (setAttr (.ref ea) f u) Q E s := by
  obtain ⟨⟨oe, t, he, hc, hd, hdat⟩, _⟩ := I.hok _ _ h
  obtain ⟨⟨mA, hns, rel, wi⟩, _⟩ := I.hok _ _ h2
  obtain ⟨od, es, ep, god, hod, hrest⟩ := id hns
  have J : PySem.W.InstAt s.heap ea oe C (some od) := ⟨he, hc, by unfold PySem.W.notCls; rw [hdat], by rw [hd]; exact god⟩
  refine PySem.W.set_plain I.kIn J k.sa (osa_more (s := { s with toks := s.toks + 1 }) I.kIn J hd n hns k.ov k.hd k.nt wi (by rw [List.length_map]; omega) fun h' tk' g2 g3 => ?_)
  obtain ⟨od', es', ep', god', _⟩ := id g2
  refine q _ (I.write (x := dx) (e := dx) (o := XdO dx ((f, y) :: fs)) (h' := h') (t' := tk') (by rw [h2]; exact True.intro) (.inl rfl) g3 ⟨_, god'⟩ ⟨⟨_, g2, fun g => ?_, Within.cons f u wi⟩, ⟨_, god'⟩, fun k1 k2 ⟨m, z1, z2⟩ kk => ⟨m, ns1_keep z1 kk, z2⟩⟩)
  show RelO (List.lookup g ((f, y) :: fs)) (if g = f then some u else mA g)
  rw [List.lookup_cons]
  by_cases e : g = f
  · subst e; simp; exact ry
  · have : (g == f) = false := by simpa using e
    rw [this, if_neg e]
    exact rel g
end
section
variable {X : Cx} {o value : Expr} {ta tv : TE} {f : Str} {pos pos' : Pos}
def sSetF1 (K : PySem.W.Frag) (ta tv : TE) (f : Str) : TS := fun D σ H => tv σ H fun y H1 => ta σ H1 fun x H2 => SetF1 K f x y H2 (D.nx σ)
def sSetF2 (K : PySem.W.Frag) (ta tv : TE) (f : Str) : TS := fun D σ H => tv σ H fun y H1 => ta σ H1 fun x H2 => SetF2 K f x y H2 (D.nx σ)
theorem ps_setF1 (hex : X.ex = []) (ha : PE X o ta) (hv : PE X value tv) (hs : swapsWith value (some (.Attribute o f pos')) pos.line X.env = pure false) : PS X (.Assign [.Attribute o f pos'] value pos) (sSetF1 X.K ta tv f) := by
  intro pins s σ H D I h
  refine plainObj_wpAny_Assign_Attribute (thn (hv pins s σ H _ I h) fun u s1 z1 => z1.elim fun y H1 I1 ry q1 => thn (ha pins s1 σ H1 _ I1 q1) fun ov s2 z2 => z2.elim fun x H2 I2 rx q2 => ?_) hs
  obtain ⟨ea, C, rfl, he, k, q⟩ := q2
  obtain rfl : ov = Value.ref ea := rx
  exact setF1_ok hex I2 he k ry fun dx s3 n1 n2 I3 => ⟨σ, _, I3, q dx n1 n2⟩
theorem ps_setF2 (ha : PE X o ta) (hv : PE X value tv) (hs : swapsWith value (some (.Attribute o f pos')) pos.line X.env = pure false) : PS X (.Assign [.Attribute o f pos'] value pos) (sSetF2 X.K ta tv f) := by
  intro pins s σ H D I h
  refine plainObj_wpAny_Assign_Attribute (thn (hv pins s σ H _ I h) fun u s1 z1 => z1.elim fun y H1 I1 ry q1 => thn (ha pins s1 σ H1 _ I1 q1) fun ov s2 z2 => z2.elim fun x H2 I2 rx q2 => ?_) hs
  obtain ⟨ea, C, dx, fs, rfl, he, hx, n, l, k, q⟩ := q2
  obtain rfl : ov = Value.ref ea := rx
  exact setF2_ok I2 he hx n l k ry fun s3 I3 => ⟨σ, _, I3, q⟩
end
end L2

set_option Elab.async false
set_option linter.all false
set_option maxRecDepth 100000
set_option maxHeartbeats 4000000
namespace L2
open PySem PySem.Spec PyProof.Rows
theorem lookIn_at {h : Heap} {dx : Addr} {m : Str → Option Value} {f : Str} {u : Value} {od : Obj} (n : h.Ns1 dx m) (e : m f = some u) (g : h.get? dx = some od) : PySem.W.lookIn f od = some (some u) := by
  obtain ⟨o, es, ep, ho, hd, _, _, hf⟩ := n
  rw [g] at ho
  cases ho
  have := (hf f).trans e
  unfold nsFind findBy at this
  rw [← Array.find?_toList] at this
  obtain ⟨en, h1, h2⟩ := Option.map_eq_some_iff.mp this
  unfold PySem.W.lookIn
  rw [hd]
  dsimp only
  rw [h1, ← h2]
def ExcH (ea C : Addr) (d : Option Addr) : HO := .ext fun h => ∃ oe : Obj, h.get? ea = some oe ∧ oe.cls = .ref C ∧ oe.dict = d ∧ PySem.W.notCls oe = true
structure GKit (K : PySem.W.Frag) (C : Addr) (f : Str) : Prop where
  fk : FKit K C
  hd : PySem.W.hasDictIn K C = true
  no : PySem.W.findIn K (.ref C) f = some none
inductive FldE (K : PySem.W.Frag) (f : Str) (x : V) (H : Hp) (Q : VK) : Prop
  | mk (ea C dx : Addr) (fs : List (Str × V)) (i : Int) (e : x = .ref ea) (h : H ea = some (ExcH ea C (some dx))) (h2 : H dx = some (XdO dx fs)) (l : fs.lookup f = some (.int i)) (k : GKit K C f) (q : Q (.int i) H) : FldE K f x H Q
def tFldE (K : PySem.W.Frag) (ta : TE) (f : Str) : TE := fun σ H Q => ta σ H fun x H1 => FldE K f x H1 Q
section
variable {X : Cx} {e : Expr} {ta : TE} {f : Str} {pos : Pos}
theorem pe_fldE (he : PE X e ta) (hb : attributeBase e f X.env (eval e X.env) = eval e X.env) : PE X (.Attribute e f pos) (tFldE X.K ta f) := by
  intro pins s σ H Q I h
  refine attr_of hb (thn (he pins s σ H _ I h) fun u s1 zq => zq.elim fun x H1 I1 rx q1 => ?_)
  obtain ⟨ea, C, dx, fs, i, rfl, h1, h2, l, k, q⟩ := q1
  obtain rfl : u = Value.ref ea := rx
  obtain ⟨⟨oe, ge, hc, hd, hn⟩, _⟩ := I1.hok _ _ h1
  obtain ⟨⟨mA, hns, rel, wi⟩, _⟩ := I1.hok _ _ h2
  obtain ⟨od, es, ep, god, hod, hrest⟩ := id hns
  have J : PySem.W.InstAt s1.heap ea oe C (some od) := ⟨ge, hc, hn, by rw [hd]; exact god⟩
  have r := rel f
  rw [l] at r
  cases hm : mA f with
  | none => rw [hm] at r; exact r.elim
  | some w =>
    rw [hm] at r
    obtain ⟨t, rfl⟩ : ∃ t, w = Value.int i t := r
    have hf := PySem.W.findObj_own (K := X.K) (C := C) (name := f) (od := od) (v := Value.int i t) (attr := none) k.hd k.no rfl (lookIn_at hns hm god)
    exact excf_get I1.kIn J k.fk hf rfl ⟨.int i, H1, I1.tok _, ⟨t, rfl⟩, q⟩
end
end L2

set_option Elab.async false
set_option linter.all false
set_option maxRecDepth 100000
set_option maxHeartbeats 4000000
namespace L2
open PySem PySem.Spec PyProof.Rows
structure XKitA (K : PySem.W.Frag) (D : Addr) : Prop where
  fk : FKit K D
  hdct : PySem.W.hasDictIn K D = true
  ha : PySem.W.findIn K (.ref D) "__class__" = some (some (.builtin "object.__class__"))
  hn : PySem.W.specialIn K (.builtin "object.__class__") "__get__" = some (some (.builtin "getset_descriptor.__get__"))
  htk : PySem.W.takesIn K (.builtin "object.__class__") = some true
  hm : PySem.W.mroIn K D (.type "object") = some true
theorem fobjA {K : PySem.W.Frag} {D : Addr} {od : Option Obj} (k : XKitA K D) : PySem.W.findObj K D od "__class__" = some (.bind (.builtin "getset_descriptor.__get__") (.builtin "object.__class__")) := by
  obtain ⟨cd, hc, _⟩ := PySem.W.any_some k.hdct
  simp only [PySem.W.findObj, hc, k.ha, k.hn, k.htk, Option.bind_some]
section
variable {prg : Program} {wd : World} {Ar : Around} {K : PySem.W.Frag} {s : Shared} {x D : Addr} {ox : Obj} {od : Option Obj}
theorem excA_call {tk : Tok} {R : Result → Shared → Prop} (X : K.In s.heap) (I : PySem.W.InstAt s.heap x ox D od) (k : XKitA K D) (h : R (Except.ok (Flow.ret (Value.ref D))) s) :
    codeAny (model prg wd) Ar (Code.call (Value.builtin "BaseException.__getattribute__") { pos := [Value.ref x, Value.str (Str.ofString "__class__") tk] }) R s := by
  obtain ⟨hh, g, d, t, os⟩ := s
  obtain ⟨tl, N, nm, qn, bs, hdct, sn, sub, ab, col, dd, k0, k1, k2, k3, k5, hC, hB⟩ := cls_any X k.fk.q
  have hf := fobjA (od := od) k
  refine codeAny_call_builtin PySem.F.attrBase_ValueError.ga.plain PySem.F.entry_bexc_ga ?_
  have ck := @wpAny_check_slot_inst Ar.in1 (fun e s' => R (Except.error e) s') hh g d t os nm qn D N x bs tl hdct sn sub ab col dd k0 k1 k2 k3 k5 "ValueError.__new__" (model prg wd) "BaseException.__getattribute__" "BaseException" "__getattribute__" ox [Value.str (Str.ofString "__class__") tk]
  refine ck kd1 kd2 (PySem.F.args_bexc_ga _ _) hB I.at_ I.cls hC ?_
  clear ck
  unfold Builtin.«object.__getattribute__» slotArgs
  generalize hfnd : Builtin.ObjectAttr.find = fnd
  generalize hbnd : Builtin.ObjectAttr.bindTo = bnd
  repeat (first | (with_reducible refine wpAny_loadPart_at I.at_ ?_; rw [I.cls]) | wp_step)
  subst hfnd
  refine (PySem.W.looks_find X I hf) _ _ _ _ (fun _ _ e => e) ?_
  dsimp only
  subst hbnd
  unfold Builtin.ObjectAttr.bindTo
  dsimp only
  refine wpAny_bind (wpAny_holding (wpAny_call (PySem.W.class_get X I k.hm ?_)))
  exact wpAny_pure h
theorem excA_class {E : Value → Shared → Prop} {Q : Option Value → Shared → Prop} (X : K.In s.heap) (I : PySem.W.InstAt s.heap x ox D od) (k : XKitA K D) (h : Q (some (Value.ref D)) { s with toks := s.toks + 1 }) :
    wpAny (model prg wd) Ar (getAttr? (Value.ref x) (Str.ofString "__class__")) Q E s := by
  unfold getAttr?
  refine wpAny_bind (wpAny_mkText ?_)
  unfold getAttrBy?
  refine wpAny_bind (wpAny_attempt ?_)
  unfold getAttrBy
  refine wpAny_holding (wpAny_bind ((I.type (h := s.heap)) _ _ _ _ (fun _ _ e => e) ?_))
  refine wpAny_bind ((PySem.W.looks_findIn X k.fk.ga) _ _ _ _ (fun _ _ e => e) ?_)
  dsimp only
  have e0 : (Value.builtin "BaseException.__getattribute__" == Value.builtin "object.__getattribute__") = false := by decide
  rw [e0, Bool.and_false, if_neg Bool.false_ne_true]
  unfold getAttrByItsOwn
  refine wpAny_bind ((PySem.W.looks_hook X (mc := .ref D) (r := none) k.fk.gn) _ _ _ _ (fun _ _ e => e) ?_)
  refine wpAny_bind (wpAny_attempt (wpAny_holding ?_))
  unfold callGetattribute boundAndCalled
  rw [if_neg (by decide), PySem.F.attrBase_ValueError.ga.bind]
  refine wpAny_bind (wpAny_pure ?_)
  refine wpAny_call (excA_call (s := { s with toks := s.toks + 1 }) X I k ?_)
  exact wpAny_pure (wpAny_pure h)
end
section
variable {K : PySem.W.Frag} {x D : Addr} {ox : Obj} {od : Option Obj}
theorem kitx_excA (k : XKitA K D) : PySem.W.KitX K (.ref x) (.ref D) (fun h => PySem.W.InstAt h x ox D od) where
  ty := fun _ _ _ I => I.type
  it := fun _ _ X _ => by
    obtain ⟨cdD, hcD, _⟩ := PySem.W.any_some k.hdct
    unfold PySem.W.clsIn at hcD
    split at hcD
    · rename_i c' d' cd' sl' ho
      intro A' Q' E' s' kk q
      unfold isType loadHead
      exact wpAny_bind (wpAny_loadPart (kk _ _ (X _ _ ho)) (wpAny_pure q))
    · cases hcD
  ne := fun h tp dd its n sl X htp => by
    obtain ⟨cdD, hcD, _⟩ := PySem.W.any_some k.hdct
    refine Bool.eq_false_iff.mpr fun q => ?_
    have e : D = tp := Value.ref.inj (beq_iff_eq.mp q)
    subst e
    unfold PySem.W.clsIn at hcD
    split at hcD
    · rename_i c' d' cd' sl' ho
      have z := (X _ _ ho).symm.trans htp
      cases z
    · cases hcD
  ca := fun {prog w A E Q s} X I h => excA_class X I k h
inductive IsiH (K : PySem.W.Frag) (C : Addr) (xs : List V) (H : Hp) (Q : VK) : Prop
  | mk (ea : Addr) (d : Option Addr) (c : V) (u : Value) (b : Bool) (e : xs = [.ref ea, c]) (h : H ea = some (ExcH ea C d)) (hd : d = none ∨ ∃ dx fs, d = some dx ∧ H dx = some (XdO dx fs)) (hu : ∀ u', RelV c u' → u' = u) (k : PySem.W.kitOne K (.ref C) u = some b) (q : Q (.bl b) H) : IsiH K C xs H Q
variable {X : Cx} {C : Addr}
theorem call_isiH (k : XKitA X.K C) : CallR X (.builtin "isinstance") (IsiH X.K C) := by
  intro pins s σ H xs us Q I r h
  obtain ⟨ea, d, c, u, b, rfl, hH, hd, hu, hk, q⟩ := h
  cases r with
  | cons r1 rr =>
    cases rr with
    | cons r2 rr =>
      cases rr
      cases (show _ = Value.ref ea from r1)
      cases hu _ r2
      obtain ⟨⟨oe, p1, hc, hdd, hn⟩, _⟩ := I.hok _ _ hH
      rcases hd with rfl | ⟨dx, fs, rfl, hx⟩
      · have J : PySem.W.InstAt s.heap ea oe C none := ⟨p1, hc, hn, by rw [hdd]; trivial⟩
        exact PySem.W.kia_one (kitx_excA k) I.kIn J hk (fun z => nomatch z) fun tk => ⟨.bl b, H, I.tok tk, rfl, q⟩
      · obtain ⟨⟨mA, ⟨od, es, ep, god, _⟩, _⟩, _⟩ := I.hok _ _ hx
        have J : PySem.W.InstAt s.heap ea oe C (some od) := ⟨p1, hc, hn, by rw [hdd]; exact god⟩
        exact PySem.W.kia_one (kitx_excA k) I.kIn J hk (fun z => nomatch z) fun tk => ⟨.bl b, H, I.tok tk, rfl, q⟩
end
end L2

set_option Elab.async false
set_option linter.all false
set_option maxRecDepth 100000
set_option maxHeartbeats 4000000
namespace L2
open PySem PySem.Spec PyProof.Rows
section
variable {M : Model} {Ar : Around} {Ex : Value → Shared → Prop} {env : Env}
variable {nm qn : Str} {C N : Addr} {bs tl : List Value} {hdc : Bool} {sn : List Str} {sb : List Value} {ab : Bool} {cl : Option Bool} {dd : Option Addr} {k0 k1 k2 k3 k5 : Option Value} {newId : String}
theorem raise_any {s : Shared} {t : Sem Value} {Q : Flow → Shared → Prop} (hb : tl.contains (.type "BaseException") = true) (hh : Ar.handled = none)
    (h : wpAny M Ar t (fun v s1 => ∃ e oe, v = .ref e ∧ s1.heap.get? C = some (excClassObj nm qn C N bs tl hdc sn sb ab cl dd k0 k1 k2 k3 k5 newId) ∧ s1.heap.get? e = some oe ∧ oe.cls = .ref C ∧ (∃ t, oe.data = .fields #[.ref t, .none, .none, .none, .bool false, .none]) ∧ Ex (.ref e) s1) Ex s) :
    wpAny M Ar (raiseStmt env (some t) none) Q Ex s := by
  have hcB : (Value.ref C :: tl).contains (.type "BaseException") = true := by rw [List.contains_cons, hb, Bool.or_true]
  unfold raiseStmt
  refine wpAny_bind (wpAny_mono h (fun v s1 z => ?_) fun _ _ x => x)
  obtain ⟨e, oe, rfl, hC, he, hc, ⟨t0, hd⟩, hE⟩ := z
  obtain ⟨oc, od, odt, osl⟩ := oe
  dsimp only at hc hd
  subst hc hd
  obtain ⟨hp, g, d, tk, os⟩ := s1
  repeat (first | with_reducible refine wpAny_loadPart_at he ?_ | with_reducible refine wpAny_loadPart_at hC ?_ | (with_reducible refine wpAny_isSubtype_exc hC ?_; rw [hcB]) | wp_step)
  exact wpAny_raiseNew_none hh hE
end
section
variable {prg : Program} {wd : World} {Ar : Around} {Ex : Value → Shared → Prop} {env : Env} {s : Shared}
variable {nm qn : Str} {C N : Addr} {bs tl bmB : List Value} {hdc : Bool} {sn : List Str} {sb : List Value} {ab : Bool} {cl : Option Bool} {dd : Option Addr} {k0 k1 k2 k3 k5 : Option Value} {B newId initId : String}
theorem raise_own (F : ExcBaseFacts B newId initId bmB) {mN : Str → Option Value} {fI : Addr} {x : Str} {np cpos pos : Pos} {args : List Expr} {Q : Flow → Shared → Prop}
    (hb : tl.contains (.type "BaseException") = true) (hh : Ar.handled = none) (hpl : (backTo cpos (starEach args env)).any (·.1) = false) (hi : mN "__init__" = some (.ref fI))
    (h : wpAny (model prg wd) Ar (eval (.Name x np) env) (fun f s1 => f = .ref C ∧ wpAny (model prg wd) Ar (evalArgs (.ref C) true (backTo cpos (starEach args env)) [])
      (fun a s2 => a.kw = [] ∧ a.pos.length ≤ sizeLine ∧ s2.heap.get? C = some (excClassObj nm qn C N bs tl hdc sn sb ab cl dd k0 k1 k2 k3 k5 newId) ∧ s2.heap.Ns N mN ∧ OwnTail s2.heap bmB tl ∧ (∃ oI, s2.heap.get? fI = some oI ∧ oI.cls = .type "function") ∧
        ∀ h' e, Heap.MadeExcOf s2.heap h' e (.ref C) a.pos → wpAny (model prg wd) (Ar.under (.builtin "type.__call__" ⟨.ref C :: a.pos, []⟩)) (call (.ref fI) (.ref e :: a.pos))
          (fun r s' => r = .none ∧ s'.heap.get? C = some (excClassObj nm qn C N bs tl hdc sn sb ab cl dd k0 k1 k2 k3 k5 newId) ∧ (∃ oe, s'.heap.get? e = some oe ∧ oe.cls = .ref C ∧ ∃ t, oe.data = .fields #[.ref t, .none, .none, .none, .bool false, .none]) ∧ Ex (.ref e) s') Ex { s2 with heap := h' }) Ex s1) Ex s) :
    wpAny (model prg wd) Ar (exec (.Raise (some (.Call (.Name x np) args [] cpos)) none pos) env) Q Ex s := by
  rw [arm_exec_Raise]
  simp only [evalOpt, Option.map]
  refine wpAny_bind (wpAny_standAt (raise_any (C := C) (nm := nm) (qn := qn) (N := N) (bs := bs) (tl := tl) (hdc := hdc) (sn := sn) (sb := sb) (ab := ab) (cl := cl) (dd := dd) (k0 := k0) (k1 := k1) (k2 := k2) (k3 := k3) (k5 := k5) (newId := newId) hb hh ?_))
  refine wpAny_bind (wpAny_mono (wpAny_Call_ofName (wpAny_mono h (fun f s1 z1 => ?_) fun _ _ y => y)) (fun v s3 z3 => wpAny_bind (wpAny_standAt (wpAny_pure z3))) fun _ _ y => y)
  obtain ⟨rfl, z1⟩ := z1
  unfold callWith
  refine wpAny_bind (wpAny_holding (wpAny_mono z1 (fun a s2 z2 => wpAny_bind (wpAny_standAt ?_)) fun _ _ y => y))
  obtain ⟨apos, akw⟩ := a
  obtain ⟨kw, len, hC, hn, T, ⟨oI, hf, hc⟩, z2⟩ := z2
  obtain rfl : akw = [] := kw
  obtain ⟨hp, g, d, tk, os⟩ := s2
  simp only [hpl]
  refine wpAny_bind (wpAny_keeperOf_exc hC ?_)
  refine wpAny_bind (call_own F T hC hn hi hf hc len fun h' e hm => wpAny_mono (z2 h' e hm) (fun r s' w => ⟨w.1, wpAny_bind (wpAny_holding (wpAny_point (wpAny_pure ?_)))⟩) fun _ _ y => y)
  obtain ⟨_, q1, ⟨oe, q2, q3, q4⟩, q5⟩ := w
  exact ⟨e, oe, rfl, q1, q2, q3, q4, q5⟩
end
end L2

set_option Elab.async false
set_option linter.all false
set_option maxRecDepth 100000
set_option maxHeartbeats 4000000
namespace L2
open PySem PySem.Spec PyProof.Rows
def ownObjI (K : PySem.W.Frag) (C fI : Addr) (o : Obj) : Bool := match o.data with
  | .cls cd => o.cls == .type "type" && (cd.mro.head? == some (.ref C) && (PySem.W.tailIn K bmV cd.mro.tail && (o.slots.size == 6 && (o.slots[4]? == some (some (.builtin "ValueError.__new__")) && (!cd.hasDel && (PySem.W.nsOkIn K cd.ns && PySem.W.nsIn K cd.ns "__init__" == some (some (.ref fI))))))))
  | _ => false
def ownInI (K : PySem.W.Frag) (C fI : Addr) : Bool := (K.lookup C).any (ownObjI K C fI)
theorem ns_some_of {K : PySem.W.Frag} {h : Heap} {N : Addr} {mg : Str → Option Value} {n : Str} {v : Value} (X : K.In h) (G : h.Ns N mg) (e : PySem.W.nsIn K N n = some (some v)) : mg n = some v := by
  obtain ⟨o, es, ep, ho, hd, _, hf⟩ := G
  unfold PySem.W.nsIn at e
  split at e
  · rename_i c d es' n' sl q
    have := X _ _ q
    rw [ho] at this
    cases this
    cases hd
    split at e
    · rename_i en he
      cases e
      rw [← hf]
      unfold nsFind findBy
      rw [← Array.find?_toList, he]
      rfl
    · split at e <;> cases e
  · cases e
theorem own_inI {K : PySem.W.Frag} {h : Heap} {C fI : Addr} (X : K.In h) (q : ownInI K C fI = true) : ∃ tl N nm qn bs hdc sn sb ab cl dd k0 k1 k2 k3 k5 mN, h.get? C = some (excClassObj nm qn C N bs tl hdc sn sb ab cl dd k0 k1 k2 k3 k5 "ValueError.__new__") ∧ h.Ns N mN ∧ mN "__init__" = some (.ref fI) ∧ OwnTail h bmV tl := by
  obtain ⟨o, ho, q⟩ := PySem.W.any_some q
  obtain ⟨c, dd, data, sl⟩ := o
  cases data with
  | cls cd =>
    obtain ⟨nm, bs, mro, ns, qn, hd, sn, sub, ab, col, del⟩ := cd
    simp only [ownObjI, Bool.and_eq_true, beq_iff_eq, Bool.not_eq_true'] at q
    obtain ⟨h1, h2, h3, h4, h5, h6, h7, h8⟩ := q
    cases mro with
    | nil => cases h2
    | cons v bm =>
      cases h2
      obtain ⟨l⟩ := sl
      obtain ⟨k0, k1, k2, k3, k4, k5, rfl⟩ := list6 (l := l) h4
      cases h5
      subst h1 h6
      have N := Heap.Ns.of_isNs (PySem.W.isNs_of_in X h7)
      exact ⟨bm, ns, nm, qn, bs, hd, sn, sub, ab, col, dd, k0, k1, k2, k3, k5, _, X _ _ ho, N, ns_some_of X N h8, PySem.W.tail_of_in X h3⟩
  | _ => cases q
section
variable {X : Cx} {pins : List (Addr × Obj)} {σ : St} {H H3 : Hp} {s : Shared} {a : Addr} {φ : Heap → Prop}
theorem Inv.drop (I : Inv X pins σ H s) (h : H a = some (.ext φ)) (n : H3 a = none) (o : ∀ b, b ≠ a → H3 b = H b) : Inv X pins σ H3 s := by
  have no : ∀ {b}, H b = none → H3 b = none := fun {b} z => by
    by_cases e : b = a
    · rw [e]; exact n
    · rw [o b e]; exact z
  have keep : ∀ {b u}, H b = some u → (∀ φ, u ≠ .ext φ) → H3 b = some u := fun {b u} z nx => by
    by_cases e : b = a
    · rw [e, h] at z; cases z; exact absurd rfl (nx _)
    · rw [o b e]; exact z
  refine ⟨I.ok, I.os, I.bare, ⟨I.base.keep, I.base.slot, fun b ob q n hx => no (I.base.free b ob q n hx), I.base.there, fun b xs q => keep (I.base.tups b xs q) (fun _ z => nomatch z), fun b ob u q => keep (I.base.frzs b ob u q) (fun _ z => nomatch z), fun b ps q => ?_⟩, I.loc, I.cell, no I.free, fun y c q => no (I.freeC y c q), fun p hp => ?_, fun b u q => ?_, I.len⟩
  · obtain ⟨more, z⟩ := I.base.tbls b ps q
    exact ⟨more, keep z (fun _ z => nomatch z)⟩
  · obtain ⟨q1, q2, q3⟩ := I.pin p hp
    exact ⟨q1, no q2, q3⟩
  · have e : b ≠ a := fun e => by rw [e, n] at q; cases q
    rw [o b e] at q
    exact (I.hok b u q).stay (fun _ _ _ z => z) (fun _ z => keep z (fun _ z => nomatch z)) fun _ _ z => keep z (fun _ z => nomatch z)
end
def RaisesD (X : Cx) (E : XK) : Prop := ∀ (pins : List (Addr × Obj)) (σ : St) (H : Hp) (s : Shared) (e0 C t : Addr) (oe : Obj) (d : Option Addr), Inv X pins σ H s → s.heap.get? e0 = some oe → oe.cls = .ref C → oe.dict = d → oe.data = .fields #[.ref t, .none, .none, .none, .bool false, .none] → H e0 = none → X.s₀.heap.get? e0 = none → E (.ref C) d H → X.xe (.ref e0) s
theorem raisesD {P : Program} {w : World} {K : PySem.W.Frag} {mg : Str → Option Value} {base : Heap} {N : List Str} {qual : Str} {scope : Scope} {f : Addr} {cd : Value} {A : Around} {outer : List Env} {s : Shared} {H : Hp} {E : XK} : RaisesD (cxOf (CXD P w) P w K mg base N qual scope f cd A outer s H E) E :=
  fun pins σ H1 s1 e0 C t oe d I he hc hd hdat hH h0 q => leave_madeD (X := cxOf (CXD P w) P w K mg base N qual scope f cd A outer s H E) rfl rfl rfl I he hc hd hdat hH h0 q
inductive RaiQ (E : XK) (C ea : Addr) (v : V) (H2 : Hp) : Prop
  | mk (d : Option Addr) (H3 : Hp) (e : v = .non) (h : H2 ea = some (ExcD ea C d)) (n : H3 ea = none) (o : ∀ b, b ≠ ea → H3 b = H2 b) (q : E (.ref C) d H3) : RaiQ E C ea v H2
inductive RaiI (sp : Sp) (E : XK) (C : Addr) (vs : List V) (H1 : Hp) : Prop
  | mk (l : vs.length ≤ sizeLine) (q : ∀ ea, H1 ea = none → sp (.ref ea :: vs) (upd H1 ea (ExcD ea C none)) (RaiQ E C ea) E0) : RaiI sp E C vs H1
section
variable {X : Cx}
theorem ps_raiseI {x : Str} {C fI : Addr} {e1 : Expr} {es : List Expr} {ta : TA} {E : XK} {np cpos pos : Pos} {k : Nat} {fd : FuncData} {ps : List Str} {sp : Sp} (hc : X.calm = true) (hex : X.ex = []) (hg : Gl X x) (hm : X.mg x = some (.ref C)) (hq : ownInI X.K C fI = true)
    (F : FnOk X.prog X.w X.K X.mg X.base CX0 k fI fd ps sp) (hr : Room (k + 1) X.A) (hb : Binds X.K fd ps []) (hfn : ∃ oI, X.K.lookup fI = some oI ∧ oI.cls = .type "function")
    (hE : RaisesD X E) (ha : PA X (e1 :: es) ta) (hdb : (x == ("__debug__" : Str)) = false := by decide) (he : starEach (e1 :: es) X.env = (false, eval e1 X.env) :: starEach es X.env := by rfl) (hpl : (backTo cpos (starEach es X.env)).any (·.1) = false := by rfl) :
    PS X (.Raise (some (.Call (.Name x np) (e1 :: es) [] cpos)) none pos) (fun D σ H => ta σ H fun vs H1 => RaiI sp E C vs H1) := by
  intro pins s σ H D I h
  obtain ⟨tl, N, nm, qn, bs, hdct, sn, sub, ab, col, dd, k0, k1, k2, k3, k5, mN, hC, hN, hni, T⟩ := own_inI I.ok.mod.kin hq
  refine raise_own (C := C) (nm := nm) (qn := qn) (N := N) (bs := bs) (tl := tl) (hdc := hdct) (sn := sn) (sb := sub) (ab := ab) (cl := col) (dd := dd) (k0 := k0) (k1 := k1) (k2 := k2) (k3 := k3) (k5 := k5)
    PySem.F.excBase_ValueError (mN := mN) (T.hasType kd3) (I.ok.hd hc) (by rw [he]; exact hpl) hni (ld_glob I hg hm ⟨rfl, ?_⟩ hdb)
  have key := ha cpos pins s σ H _ I h
  rw [he] at key ⊢
  refine Calls.evalArgs_plain (wpAny_mono key (fun us s1 h1 => ?_) fun _ _ y => y)
  obtain ⟨vs, H1, I1, r, hl, q1⟩ := h1
  obtain ⟨oI, lk, hcI⟩ := hfn
  refine ⟨rfl, by rw [← r.length]; exact hl, I1.bk _ _ hC, hN.keeps I1.bk, T.keeps I1.bk, ⟨oI, I1.kIn _ _ lk, hcI⟩, fun h' ea hmk => ?_⟩
  have n0 : X.s₀.heap.get? ea = none := by
    cases z : X.s₀.heap.get? ea with
    | none => rfl
    | some o =>
      obtain ⟨o', e'⟩ := I1.base.there ea o z (by rw [hex]; simp)
      rw [hmk.new] at e'
      cases e'
  have hH : H1 ea = none := I1.hok.none_of hmk.new
  obtain ⟨t, ht, _, _⟩ := hmk.there
  have I2 : Inv X pins σ H1 { s1 with heap := h' } := I1.call' (ch := []) (s' := { s1 with heap := h' }) rfl (Un.kept hmk.keeps) (I1.hok.kept hmk.keeps) I1.bare (fun b z => absurd z (by simp))
  have nl : ea ≠ X.env.locals := fun z => by
    obtain ⟨m, ⟨o, es, ep, ho, hd, _⟩, _⟩ := I1.loc
    rw [← z, hmk.new] at ho
    cases ho
  have I3 : Inv X pins σ (upd H1 ea (ExcD ea C none)) { s1 with heap := h' } := I2.adoptO (u := ExcD ea C none) ht ⟨⟨_, t, ht, rfl, rfl, rfl⟩, ⟨_, ht⟩, fun g1 g2 ⟨o', t', z1, z2⟩ kk => ⟨o', t', kk o' z1, z2⟩⟩ hH n0 nl (fun v z => nomatch z) fun p hp z => by
    have := (I1.pin p hp).1
    rw [z, hmk.new] at this
    cases this
  have rr : Vals (V.ref ea :: vs) (Value.ref ea :: us) := .cons rfl r
  have q2 := q1 ea hH
  have bd := hb { s1 with heap := h' } (Value.ref ea :: us) I3.kIn (by rw [List.append_nil, ← rr.length]; exact F.len _ _ _ _ q2)
  rw [List.append_nil] at bd
  refine wpAny_call (codeAny_mono (F.run _ X.stack _ _ ⟨Value.ref ea :: us, []⟩ _ _ _ _ (hr.make C us []) (I3.env0.make C us []) bd rr q2) fun r' s' hq' => ?_)
  cases r' with
  | error e => exact False.elim hq'
  | ok fl =>
    cases fl with
    | next => exact False.elim hq'
    | brk => exact False.elim hq'
    | cont => exact False.elim hq'
    | ret u =>
      obtain ⟨v, H2, I4, rv, z⟩ := I3.after hq'
      obtain ⟨d, H3, rfl, h2, n3, o3, qE⟩ := z
      obtain ⟨⟨oe, t', he', hc', hd', hdat⟩, _⟩ := I4.hok _ _ h2
      refine ⟨rv, I4.bk _ _ hC, ⟨oe, he', hc', t', hdat⟩, ?_⟩
      exact hE pins σ H3 s' ea C t' oe d (I4.drop h2 n3 o3) he' hc' hd' hdat n3 n0 qE
end
end L2

set_option Elab.async false
set_option linter.all false
set_option maxRecDepth 100000
set_option maxHeartbeats 4000000
namespace L2
open PySem PySem.Spec PyProof.Rows
abbrev TH := Addr → Option Addr → Ends → St → Hp → Prop
theorem sub_baseA {K : PySem.W.Frag} {h : Heap} {C D : Addr} {nm q : Str} {N : Addr} {bs bm : List Value} {hdct : Bool} {sn : List Str} {sub : List Value} {ab : Bool} {col : Option Bool} {dd : Option Addr} {k0 k1 k2 k3 k5 : Option Value} {newId : String} {b : Bool}
    (X : K.In h) (q0 : excInA K C = true) (hC : h.get? C = some (excClassObj nm q C N bs bm hdct sn sub ab col dd k0 k1 k2 k3 k5 newId)) (hs : subIn K C D = b) : (Value.ref C :: bm).contains (.ref D) = b := by
  cases z : K.lookup C with
  | none =>
    obtain ⟨o, ho, _⟩ := PySem.W.any_some q0
    rw [z] at ho
    cases ho
  | some o =>
    have := X _ _ z
    rw [hC] at this
    cases this
    unfold subIn at hs
    rw [z] at hs
    exact hs
section
variable {X : Cx} {pins : List (Addr × Obj)} {σ : St} {H : Hp} {s : Shared}
theorem Inv.goes {h' : Heap} {m : Str → Option Value} {u : Option Value} {t' i : Nat} {n : Str} (I : Inv X pins σ H s) (hN : X.N.Nodup) (hi : X.N[i]? = some n) (hm : ∀ (j : Nat) (x : Str) (v : V), X.N[j]? = some x → σ[j]? = some (some v) → Vis X.env.scope x → ∃ u, RelV v u ∧ Look X.env s.heap m x u)
    (hn : h'.Ns X.env.locals (fun x => if x = n then u else m x)) (hs : Heap.SameBut X.env.locals s.heap h') : Inv X pins (σ.set i none) H { s with heap := h', toks := t' } := by
  have keep : ∀ b o, b ≠ X.env.locals → s.heap.get? b = some o → h'.get? b = some o := fun b o hb q => (hs.2 b hb).trans q
  have lo : ∀ {b o}, X.s₀.heap.get? b = some o → b ≠ X.env.locals := fun e => Nat.ne_of_lt (Nat.lt_of_lt_of_le (Heap.lt_size e) I.ok.above)
  refine ⟨I.ok, I.os, I.bare, ⟨fun b o e n hb hx => keep b o (lo e) (I.base.keep b o e n hb hx), fun b o e n hb hx => ?_, I.base.free, fun b o e hx => ?_, I.base.tups, I.base.frzs, I.base.tbls⟩, ⟨_, hn, fun j y v e1 e2 e3 => ?_⟩, fun y c q => ?_, I.free, I.freeC, fun p hp => ?_, ?_, by rw [List.length_set]; exact I.len⟩
  · obtain ⟨sl, e1⟩ := I.base.slot b o e n hb hx
    exact ⟨sl, keep b _ (lo e) e1⟩
  · obtain ⟨o', e1⟩ := I.base.there b o e hx
    exact ⟨o', keep b _ (lo e) e1⟩
  · have ji : j ≠ i := fun z => by
      subst z
      rw [List.getElem?_set] at e2
      split at e2
      · split at e2 <;> cases e2
      · rename_i w; exact absurd rfl w
    rw [List.getElem?_set_ne (Ne.symm ji)] at e2
    obtain ⟨w, rw', lk⟩ := hm j y v e1 e2 e3
    have yn : y ≠ n := fun z => ji ((List.getElem?_inj (List.getElem?_eq_some_iff.mp e1).1 hN).mp (by rw [e1, hi, z]))
    refine ⟨w, rw', ?_⟩
    rcases lk with ⟨l1, l2⟩ | ⟨l1, c, l2, l3⟩
    · exact .inl ⟨l1, (if_neg yn).trans l2⟩
    · exact .inr ⟨l1, c, l2, l3.sameBut hs (I.cne y c l2)⟩
  · obtain ⟨v, z⟩ := I.cell y c q
    exact ⟨v, z.sameBut hs (I.cne y c q)⟩
  · obtain ⟨q1, q2, q3, q4, q5⟩ := I.pin p hp
    exact ⟨keep p.1 p.2 q3 q1, q2, q3, q4, q5⟩
  · intro b u q
    refine (I.hok b u q).stay (fun c w hc z => keep c w (fun k => ?_) z) (fun _ z => z) fun _ _ z => z
    rcases hc with rfl | hc
    · rw [k, I.free] at q; cases q
    · rw [k, I.free] at hc; cases hc
end
def PH (X : Cx) (hs : List ExceptHandler) (t : TH) : Prop :=
  ∀ (pins : List (Addr × Obj)) (s : Shared) (σ : St) (H : Hp) (D : Ends) (h0 : Heap) (ea C T : Addr) (d : Option Addr) (oe : Obj) (vs : Array Value), FlyD d H h0 s.heap ea C oe vs T → X.s₀.heap.get? ea = none → (∀ p ∈ X.pn ++ pins, p.1 ≠ ea) →
    (∀ h6 : Heap, (∀ b, b ≠ T → h6.get? b = s.heap.get? b) → Entry h6 T .none → Inv X pins σ H { s with heap := h6 }) → excInA X.K C = true → t C d D σ H → wpAny (model X.prog X.w) X.A (handleBy (.ref ea) X.env hs) (SP X pins D) X.xe s
def Ends.goes (D : Ends) (i : Nat) : Ends := { nx := fun σ H => D.nx (σ.set i none) H, rt := D.rt, bk := fun σ H => D.bk (σ.set i none) H, ct := fun σ H => D.ct (σ.set i none) H }
inductive HndQ (K : PySem.W.Frag) (Dd : Addr) (i : Nat) (tx : TS) (tr : TH) (C : Addr) (d : Option Addr) (D : Ends) (σ : St) (H : Hp) : Prop
  | hit (b : subIn K C Dd = true) (q : ∀ ea, H ea = none → tx (D.goes i) (σ.set i (some (.ref ea))) (upd H ea (ExcH ea C d))) : HndQ K Dd i tx tr C d D σ H
  | miss (b : subIn K C Dd = false) (q : tr C d D σ H) : HndQ K Dd i tx tr C d D σ H
def tHand (K : PySem.W.Frag) (Dd : Addr) (i : Nat) (tx : TS) (tr : TH) : TH := fun C d D σ H => HndQ K Dd i tx tr C d D σ H
section
variable {X : Cx} {k i j : Nat} {f C Dd : Addr} {fd : FuncData} {ps : List Str} {sp : Sp} {x y n z : Str} {p pos hp yp tp cp zp : Pos} {e0 : Expr} {es : List Expr} {ta : TA} {b0 : Stmt} {suite : List Stmt} {tx : TS} {tr : TH} {rest : List ExceptHandler}
theorem ph_nil : PH X [] (fun _ _ _ _ _ => False) := fun _ _ _ _ _ _ _ _ _ _ _ _ _ _ _ _ _ q => False.elim q
theorem ph_cons (hg : Gl X y) (hm : X.mg y = some (.ref Dd)) (qD : excInA X.K Dd = true) (hN : X.N.Nodup) (hi : X.N[i]? = some n) (hl : X.env.scope.names.lookup n = some .local) (hsu : ∀ e, PSs (X.held e) (b0 :: suite) tx) (hr : PH X rest tr) (hdb : (y == ("__debug__" : Str)) = false := by decide) :
    PH X (.ExceptHandler (some (.Name y yp)) (some n) (b0 :: suite) hp :: rest) (tHand X.K Dd i tx tr) := by
  intro pins s σ H D h0 ea C T d oe vs F n0 np mk qC h
  obtain ⟨hh, gg, dr, tk, os⟩ := s
  have I5 := mk hh (fun _ _ => rfl) F.ent
  have KX := I5.ok.mod.kin
  obtain ⟨tl, N, nm, qn, bs, hdct, sn, sub, ab, col, dd, k0, k1, k2, k3, k5, hC, _⟩ := cls_any KX qC
  obtain ⟨tl', N', nm', q', bs', hdct', sn', sub', ab', col', dd', k0', k1', k2', k3', k5', hD, hB⟩ := cls_any KX qD
  refine wpAny_handleBy_cons (codeAny_handlers_test (ld_glob (X := X.held (.ref ea)) (I5.held _) hg hm ?_ hdb)) (by intro z; cases z)
  cases h with
  | miss b q =>
    refine excMatches_own (M := model X.prog X.w) (A := (X.held (.ref ea)).A) (I5.bk _ _ hC) (I5.bk _ _ hD) F.at_ F.cls hB (sub_baseA KX qC hC b) ?_
    exact hr pins ⟨hh, gg, dr, tk, os⟩ σ H D h0 ea C T d oe vs F n0 np mk qC q
  | hit b q =>
    refine excMatches_own (M := model X.prog X.w) (A := (X.held (.ref ea)).A) (I5.bk _ _ hC) (I5.bk _ _ hD) F.at_ F.cls hB (sub_baseA KX qC hC b) ?_
    refine codeAny_handlers_suite_as (landX F.at_ F.data F.one F.ent fun h6 k1 k2 => ?_)
    have I6 := mk h6 k1 k2
    have e6 : h6.get? ea = some oe := (k1 ea (Ne.symm F.ne)).trans F.at_
    have nl : ea ≠ X.env.locals := fun z => by
      obtain ⟨m, ⟨o, es, ep, ho, hd, _⟩, _⟩ := I6.loc
      rw [← z, e6] at ho
      cases ho
      rw [F.data] at hd
      cases hd
    have IP := (I6.held (.ref ea)).adoptO (u := ExcH ea C d) e6 ⟨⟨oe, e6, F.cls, F.dict, by unfold PySem.W.notCls; rw [F.data]⟩, ⟨_, e6⟩, fun g1 g2 ⟨o', z1, z2⟩ kk => ⟨o', kk o' z1, z2⟩⟩ F.He n0 nl (fun v z => by rw [F.data] at z; cases z) np
    refine store_ok (X := X.held (.ref ea)) IP hN hi (.inl hl) (v := .ref ea) rfl (fun s7 I7 => ?_) (.inr hl)
    refine wpAny_mono (hsu (.ref ea) pins _ (σ.set i (some (.ref ea))) _ (D.goes i) I7 (q ea F.He)) (fun fl s8 z => ?_) fun _ _ z => False.elim z
    have go : ∀ {σ' : St} {H'' : Hp} {Q : Unit → Shared → Prop}, Inv (X.held (.ref ea)) pins σ' H'' s8 → (∀ s9, Inv X pins (σ'.set i none) H'' s9 → Q () s9) → wpAny (model X.prog X.w) X.A (do bindName X.env n .none; unbindBehindTheSuite X.env n hp) Q X.xe s8 := fun {σ' H'' Q} I8 k => by
      have I9 := I8.unheld I6.ok
      obtain ⟨m, hm, hl'⟩ := I9.loc
      exact wpAny_nameGoes_keeps (m := m) hl hm (by rw [I6.ok.kind]; rfl) fun h' v hn hs => k _ (I9.goes hN hi hl' hn hs)
    cases fl with
    | next => obtain ⟨σ', H'', I8, q8⟩ := z; exact go I8 fun s9 I9 => ⟨_, _, I9, q8⟩
    | brk => obtain ⟨σ', H'', I8, q8⟩ := z; exact go I8 fun s9 I9 => ⟨_, _, I9, q8⟩
    | cont => obtain ⟨σ', H'', I8, q8⟩ := z; exact go I8 fun s9 I9 => ⟨_, _, I9, q8⟩
    | ret u => obtain ⟨v, σ', H'', I8, r, q8⟩ := z; exact go I8 fun s9 I9 => ⟨v, _, _, I9, r, q8⟩
end
end L2

set_option Elab.async false
set_option linter.all false
set_option maxRecDepth 100000
set_option maxHeartbeats 4000000
namespace L2
open PySem PySem.Spec PyProof.Rows
inductive TryE (K : PySem.W.Frag) (th : TH) (D : Ends) (σ : St) (c : Value) (d : Option Addr) (H2 : Hp) : Prop
  | mk (C : Addr) (e : c = .ref C) (k : excInA K C = true) (q : th C d D σ H2) : TryE K th D σ c d H2
def tTryC (K : PySem.W.Frag) (sp : Sp) (ta : TA) (th : TH) : TS := fun D σ H => ta σ H fun vs H1 => sp vs H1 (fun _ H2 => D.nx σ H2) (TryE K th D σ)
section
variable {X : Cx} {k i j : Nat} {f C Dd : Addr} {fd : FuncData} {ps : List Str} {sp : Sp} {x y n z : Str} {p pos hp yp tp cp zp : Pos} {e0 : Expr} {es : List Expr} {ta : TA} {b0 : Stmt} {suite : List Stmt} {tx : TS} {th : TH} {h1 : ExceptHandler} {hs : List ExceptHandler}
theorem ps_tryC (hst : X.stack = X.env :: X.outer) (hfr : X.env.frame = some X.env.locals) (hex : X.ex = []) (F : FnOk X.prog X.w X.K X.mg X.base (CXD X.prog X.w) k f fd ps sp) (hr : Room k X.A) (hg : Gl X x) (hm : X.mg x = some (.ref f)) (hk : PySem.W.keepIn X.K (.ref f) = true) (hb : Binds X.K fd ps [])
    (ha : PA X.nox (e0 :: es) ta) (hh : PH X (h1 :: hs) th)
    (hdb : (x == ("__debug__" : Str)) = false := by decide) (he : starEach (e0 :: es) X.env = (false, eval e0 X.env) :: starEach es X.env := by rfl) (hpl : (backTo cp (starEach es X.env)).any (·.1) = false := by rfl)
    (hsw : swapsWith (.Call (.Name x p) (e0 :: es) [] cp) none pos.line X.env = pure false := by rfl) :
    PS X (.Try [.Expr (.Call (.Name x p) (e0 :: es) [] cp) pos] (h1 :: hs) [] [] tp) (tTryC X.K sp ta th) := by
  intro pins s σ H D I h
  refine wpAny_Try_except ?_
  have call : wpAny (model X.prog X.w) X.A (eval (.Call (.Name x p) (e0 :: es) [] cp) X.env) (fun u s' => ∃ H', Inv X pins σ H' s' ∧ D.nx σ H') (fun e s₁ => wpAny (model X.prog X.w) X.A (noteFrame e X.env) (fun _ s₂ => wpAny (model X.prog X.w) X.A (setFlight e none) (fun _ s₃ => wpAny (model X.prog X.w) X.A (handleBy e X.env (h1 :: hs)) (SP X pins D) X.xe s₃) X.xe s₂) X.xe s₁) s := by
    refine wpAny_Call_Name_kw (ld_glob I hg hm ?_ hdb)
    refine PySem.W.callWith_K (h₀ := X.base) I.ok.mod.kin hk (wpAny_mono (ha cp pins s σ H _ (I.wish _) h) (fun us s1 zq => zq.elim fun vs H1 I1 r q => ⟨I1.kIn, ?_⟩) fun _ _ z => False.elim z) he hpl
    have J1 : Inv X pins σ H1 s1 := I1.unwish
    have hl : us.length = ps.length := by rw [← r.length]; exact F.len _ _ _ _ q
    have bd := hb s1 us J1.kIn (by rw [List.append_nil]; exact hl)
    rw [List.append_nil] at bd
    refine wpAny_call (codeAny_mono (F.run X.A X.stack s1 H1 ⟨us, []⟩ us vs _ _ hr J1.env0 bd r q) fun r s' hq => ?_)
    cases r with
    | error e =>
      refine seenD hst hfr J1 hq fun ea C d H' h5 oe vs T ee q F mk => ?_
      subst ee
      obtain ⟨C', ec, kC, q⟩ := q
      cases ec
      have n0 : X.s₀.heap.get? ea = none := by
        cases z : X.s₀.heap.get? ea with
        | none => rfl
        | some o =>
          obtain ⟨o', e'⟩ := J1.base.there ea o z (by rw [hex]; simp)
          rw [F.ne0] at e'
          cases e'
      have np : ∀ p ∈ X.pn ++ pins, p.1 ≠ ea := fun p hp z => by
        have := (J1.pin p hp).1
        rw [z, F.ne0] at this
        cases this
      exact hh pins { s' with heap := h5 } σ H' D s1.heap ea C T d oe vs F n0 np mk kC q
    | ok fl =>
      cases fl with
      | ret u =>
        obtain ⟨v, H2, I2, _, q2⟩ := J1.after hq
        exact ⟨H2, I2, q2⟩
      | next => exact False.elim hq
      | brk => exact False.elim hq
      | cont => exact False.elim hq
  refine wpAny_execs_cons (thn (Q := SP X pins D) (wpAny_Expr_any (thn call fun v s1 ⟨H1, I1, q1⟩ => ⟨σ, H1, I1, q1⟩) I.quiet hsw) fun fl s1 z => ?_)
  cases fl with
  | next => exact wpAny_execs_nil (wpAny_execs_nil z)
  | brk => exact z
  | cont => exact z
  | ret u => exact z
end
section
variable {X : Cx}
theorem ps_raiseD {x : Str} {C : Addr} {a : Expr} {ta : TA} {E : XK} {np cpos pos : Pos} (hc : X.calm = true) (hex : X.ex = []) (hg : Gl X x) (hm : X.mg x = some (.ref C)) (hq : excInB X.K C bmV "ValueError.__new__" = true)
    (hE : RaisesD X E) (ha : PA X [a] ta) (hdb : (x == ("__debug__" : Str)) = false := by decide) (he : starEach [a] X.env = (false, eval a X.env) :: starEach [] X.env := by rfl) :
    PS X (.Raise (some (.Call (.Name x np) [a] [] cpos)) none pos) (fun D σ H => ta σ H fun vs H1 => vs.length ≤ sizeLine ∧ E (.ref C) none H1) := by
  intro pins s σ H D I h
  have O := own_in (x := x) I.ok.mod.kin hm hq
  obtain ⟨tl, N, nm, q, bs, hdct, sn, sub, ab, col, dd, k0, k1, k2, k3, k5, mN, hC, hN, hni, T⟩ := O.obj
  refine wpAny_Raise_call_subT (C := C) (nm := nm) (q := q) (N := N) (bs := bs) (bm := tl) (hdct := hdct) (sn := sn) (sub := sub) (ab := ab) (col := col) (dd := dd) (k0 := k0) (k1 := k1) (k2 := k2) (k3 := k3) (k5 := k5)
    PySem.F.excBase_ValueError (mN := mN) (T.hasType kd3) (I.ok.hd hc) (by rw [he]; rfl) hni (ld_glob I hg hm ⟨rfl, ?_⟩ hdb)
  have key := ha cpos pins s σ H _ I h
  rw [he] at key ⊢
  refine Calls.evalArgs_plain (wpAny_mono key (fun us s1 h1 => ?_) fun _ _ y => y)
  obtain ⟨vs, H1, I1, r, hl, q1⟩ := h1
  refine ⟨rfl, by rw [← r.length]; exact hl, I1.bk _ _ hC, hN.keeps I1.bk, T.keeps I1.bk, fun h' e0 hmk => ?_⟩
  have n0 : X.s₀.heap.get? e0 = none := by
    cases z : X.s₀.heap.get? e0 with
    | none => rfl
    | some o =>
      obtain ⟨o', e'⟩ := I1.base.there e0 o z (by rw [hex]; simp)
      rw [hmk.new] at e'
      cases e'
  obtain ⟨t, ht, _, _⟩ := hmk.there
  have I2 : Inv X pins σ H1 { s1 with heap := h' } := I1.call' (ch := []) (s' := { s1 with heap := h' }) rfl (Un.kept hmk.keeps) (I1.hok.kept hmk.keeps) I1.bare (fun b z => absurd z (by simp))
  exact hE pins σ H1 _ e0 C t _ none I2 ht rfl rfl rfl (I1.hok.none_of hmk.new) n0 q1
inductive rCountI (x : V) (vs : List V) (H : Hp) (Q : VK) : Prop
  | mk (l : Addr) (bs : List Bool) (x0 : x = .ref l) (x1 : vs = [.bl true]) (x2 : H l = some (.lst (bs.map V.bl))) (x3 : Q (.int ((bs.countP id : Nat) : Int)) H) : rCountI x vs H Q
def rCount : V → List V → Hp → VK → Prop := fun x vs H Q => rCountI x vs H Q
def truthOf : Value → Bool
  | .bool b => b
  | _ => false
theorem vals_bools : ∀ {bs : List Bool} {us : List Value}, Vals (bs.map V.bl) us → us = bs.map Value.bool
  | [], us, r => Vals.zero r
  | b :: bs, us, r => by
    obtain ⟨u, ur, rfl, h, t⟩ := r.inv
    cases (show u = Value.bool b from h)
    rw [vals_bools t]
    rfl
theorem mt_count : MtM X "list.count" rCount := by
  intro pins s σ H x vs v us Q I rx rv h
  obtain ⟨l, bs, rfl, rfl, hH, q⟩ := h
  cases rx
  obtain ⟨u, rfl, ru⟩ := rv.one
  cases (show u = Value.bool true from ru)
  obtain ⟨z, its, n, r, hl, e⟩ := I.lstM hH
  have ei := vals_bools r
  subst ei
  refine call_meets PySem.F.slot_list_count ⟨_, e, rfl⟩ PySem.F.entry_list_count (PySem.F.args_list_count_2 _ _) (PySem.SeqAt.list_countAt l (bs.map Value.bool).toArray n none #[] (.bool true) truthOf) ⟨e, fun y hy => ?_, ?_⟩
  · obtain ⟨b, _, rfl⟩ := List.mem_map.mp (List.mem_toArray.mp hy)
    have := SeqAt.EqAt.bool_bool (A := X.A.in1) (s := s) b true
    cases b <;> exact this
  · have ec : ((bs.map Value.bool).toArray.toList.countP truthOf) = bs.countP id := by
      simp only [List.countP_map]
      congr 1
    refine ⟨.int _, H, I.tok _, ⟨_, rfl⟩, ?_⟩
    rw [ec]
    exact q
end
end L2

set_option Elab.async false
set_option linter.all false
set_option maxRecDepth 100000
set_option maxHeartbeats 4000000
namespace L2
open PySem PySem.Spec PyProof.Rows
section
variable {P : Program} {w : World} {K : PySem.W.Frag} {mg : Str → Option Value} {base : Heap}
theorem Fun.okD {x qual : Str} {st : Stmt} {f : Addr} {fd : FuncData} {N ps : List Str} {k : Nat} {sp : Sp} (F : Fun K x qual st f fd) (S : FnScope N ps (defScope st)) (len : ∀ vs H Q E, sp vs H Q E → vs.length = ps.length)
    (hbody : ∀ (cdv : Value) (A : Around) (outer : List Env) (s : Shared) (H : Hp) (vs : List V) (Q : VK) (E : XK), Room k (A.deeper (envOfC qual (defScope st) s.heap.objs.size f cdv)) → sp vs H Q E →
      ∃ t, PSs (cxOf (CXD P w) P w K mg base N qual (defScope st) f cdv A outer s H E) (defBody st) t ∧ t { nx := fun _ H' => Q .non H', rt := Q } (start N vs) H) : FnOk P w K mg base (CXD P w) (k + 1) f fd ps sp := by
  obtain ⟨oc, od, kV, doc, pm, an, cdv, ct, osl, rfl, lk, hcd⟩ := F.ex
  exact fn_of lk hcd S len fun A outer s H vs Q E hr hsp => hbody cdv A outer s H vs Q E hr hsp
end
inductive DfDE (P : Program) (w : World) (K : PySem.W.Frag) (mg : Str → Option Value) (base : Heap) (x : Str) (ps : List Str) (n : Nat) (sp : Sp) : Prop
  | mk (f : Addr) (fd : FuncData) (k : PySem.W.keepIn K (.ref f) = true) (b : Binds K fd ps []) (m : mg x = some (.ref f)) (G : FnOk P w K mg base (CXD P w) n f fd ps sp) : DfDE P w K mg base x ps n sp
structure DfD (P : Program) (w : World) (K : PySem.W.Frag) (mg : Str → Option Value) (base : Heap) (x : Str) (ps : List Str) (n : Nat) (sp : Sp) : Prop where
  ex : DfDE P w K mg base x ps n sp
theorem DfD.mk' {P : Program} {w : World} {K : PySem.W.Frag} {mg : Str → Option Value} {base : Heap} {x q : Str} {st : Stmt} {ps : List Str} {n : Nat} {sp : Sp} {f : Addr} {fd : FuncData} (F : Fun K x q st f fd) (b : Binds K fd ps []) (m : mg x = some (.ref f)) (G : FnOk P w K mg base (CXD P w) n f fd ps sp) : DfD P w K mg base x ps n sp := ⟨⟨f, fd, F.kp, b, m, G⟩⟩
inductive In1 (P : Program) (w : World) (K : PySem.W.Frag) (mg : Str → Option Value) (base : Heap) (f : Addr) (ps : List Str) (sp : Sp) : Prop
  | mk (fd : FuncData) (G : FnOk P w K mg base CX0 1 f fd ps sp) (b : Binds K fd ps []) (h : ∃ oI, K.lookup f = some oI ∧ oI.cls = .type "function") : In1 P w K mg base f ps sp
def fkB (K : PySem.W.Frag) (D : Addr) : Bool := excInA K D && (PySem.W.findIn K (.ref D) "__getattribute__" == some (some (.builtin "BaseException.__getattribute__")) && PySem.W.findIn K (.ref D) "__getattr__" == some none)
def xkB (K : PySem.W.Frag) (D : Addr) : Bool := fkB K D && (PySem.W.hasDictIn K D && (PySem.W.findIn K (.ref D) "__class__" == some (some (.builtin "object.__class__")) && (PySem.W.specialIn K (.builtin "object.__class__") "__get__" == some (some (.builtin "getset_descriptor.__get__")) && (PySem.W.takesIn K (.builtin "object.__class__") == some true && PySem.W.mroIn K D (.type "object") == some true))))
def skB (K : PySem.W.Frag) (C : Addr) (f : Str) : Bool := PySem.W.findIn K (.ref C) "__setattr__" == some (some (.builtin "object.__setattr__")) && ((PySem.W.clsIn K C).any (fun cd => overV cd.mro) && ((PySem.W.clsIn K C).any (·.hasDict) && PySem.W.takerIn K C f == some none))
def gkB (K : PySem.W.Frag) (C : Addr) (f : Str) : Bool := fkB K C && (PySem.W.hasDictIn K C && PySem.W.findIn K (.ref C) f == some none)
theorem FKit.of {K : PySem.W.Frag} {D : Addr} (h : fkB K D = true) : FKit K D := by
  simp only [fkB, Bool.and_eq_true, beq_iff_eq] at h
  exact ⟨h.1, h.2.1, h.2.2⟩
theorem XKitA.of {K : PySem.W.Frag} {D : Addr} (h : xkB K D = true) : XKitA K D := by
  simp only [xkB, Bool.and_eq_true, beq_iff_eq] at h
  exact ⟨.of h.1, h.2.1, h.2.2.1, h.2.2.2.1, h.2.2.2.2.1, h.2.2.2.2.2⟩
theorem SKit.of {K : PySem.W.Frag} {D : Addr} {f : Str} (h : skB K D f = true) : SKit K D f := by
  simp only [skB, Bool.and_eq_true, beq_iff_eq] at h
  exact ⟨h.1, h.2.1, h.2.2.1, h.2.2.2⟩
theorem GKit.of {K : PySem.W.Frag} {D : Addr} {f : Str} (h : gkB K D f = true) : GKit K D f := by
  simp only [gkB, Bool.and_eq_true, beq_iff_eq] at h
  exact ⟨.of h.1, h.2.1, h.2.2⟩
def kkB (K : PySem.W.Frag) (c : Nat → Addr) (cB : Addr) (fi : Nat → Addr) : Bool :=
  excInA K cB && ((List.range 7).all (fun i => xkB K (c i) && (PySem.W.kitOne K (.ref (c i)) (.type "ValueError") == some true && (excInA K (c i) && (subIn K (c i) cB && (List.range 7).all (fun j => PySem.W.kitOne K (.ref (c i)) (.ref (c j)) == some (j == i) && subIn K (c i) (c j) == (j == i)))))) &&
    ((List.range 2).all (fun i => excInB K (c i) bmV "ValueError.__new__") && ((List.range 5).all (fun i => ownInI K (c (i + 2)) (fi (i + 2)) && (skB K (c (i + 2)) "at" && gkB K (c (i + 2)) "at")) && (skB K (c 6) "other" && gkB K (c 6) "other"))))
structure Kn (K : PySem.W.Frag) (c : Nat → Addr) (cB : Addr) (fi : Nat → Addr) : Prop where
  exB : excInA K cB = true
  kit : ∀ i, i < 7 → XKitA K (c i)
  ve : ∀ i, i < 7 → PySem.W.kitOne K (.ref (c i)) (.type "ValueError") = some true
  ex : ∀ i, i < 7 → excInA K (c i) = true
  sub : ∀ i, i < 7 → subIn K (c i) cB = true
  one : ∀ i, i < 7 → ∀ j, j < 7 → PySem.W.kitOne K (.ref (c i)) (.ref (c j)) = some (j == i)
  sub2 : ∀ i, i < 7 → ∀ j, j < 7 → subIn K (c i) (c j) = (j == i)
  plain : ∀ i, i < 2 → excInB K (c i) bmV "ValueError.__new__" = true
  own : ∀ i, i < 5 → ownInI K (c (i + 2)) (fi (i + 2)) = true
  sk : ∀ i, i < 5 → SKit K (c (i + 2)) "at"
  gk : ∀ i, i < 5 → GKit K (c (i + 2)) "at"
  sk6 : SKit K (c 6) "other"
  gk6 : GKit K (c 6) "other"
theorem Kn.of {K : PySem.W.Frag} {c : Nat → Addr} {cB : Addr} {fi : Nat → Addr} (h : kkB K c cB fi = true) : Kn K c cB fi := by
  simp only [kkB, Bool.and_eq_true, beq_iff_eq, List.all_eq_true, List.mem_range] at h
  obtain ⟨h0, h1, h2, h3, h4, h5⟩ := h
  exact ⟨h0, fun i hi => .of (h1 i hi).1, fun i hi => (h1 i hi).2.1, fun i hi => (h1 i hi).2.2.1, fun i hi => (h1 i hi).2.2.2.1, fun i hi j hj => ((h1 i hi).2.2.2.2 j hj).1, fun i hi j hj => ((h1 i hi).2.2.2.2 j hj).2, h2, fun i hi => (h3 i hi).1, fun i hi => .of (h3 i hi).2.1, fun i hi => .of (h3 i hi).2.2, .of h4, .of h5⟩
structure Nm (mg : Str → Option Value) (c : Nat → Addr) (cB : Addr) : Prop where
  NoPart : mg "NoPart" = some (.ref (c 0))
  NoDeed : mg "NoDeed" = some (.ref (c 1))
  NoRow : mg "NoRow" = some (.ref (c 2))
  NoFit : mg "NoFit" = some (.ref (c 3))
  NoPatch : mg "NoPatch" = some (.ref (c 4))
  NoText : mg "NoText" = some (.ref (c 5))
  Clash : mg "Clash" = some (.ref (c 6))
  BoughError : mg "BoughError" = some (.ref cB)
def spInit1 (C : Addr) : Sp := fun vs H Q _ => ∃ (ea : Addr) (i : Int), vs = [.ref ea, .int i] ∧ H ea = some (ExcD ea C none) ∧ ∀ dx, H dx = none → dx ≠ ea → Q .non (upd (upd H ea (ExcD ea C (some dx))) dx (XdO dx [("at", .int i)]))
def spInit2 (C : Addr) : Sp := fun vs H Q _ => ∃ (ea : Addr) (i j : Int), vs = [.ref ea, .int i, .int j] ∧ H ea = some (ExcD ea C none) ∧ ∀ dx, H dx = none → dx ≠ ea → Q .non (upd (upd (upd H ea (ExcD ea C (some dx))) dx (XdO dx [("at", .int i)])) dx (XdO dx [("other", .int j), ("at", .int i)]))
def fldsOf (way : Nat) (one other : Int) : List (Str × V) := if way < 6 then [("at", .int one)] else [("other", .int other), ("at", .int one)]
def HasF (way : Nat) (one other : Int) (d : Option Addr) (H : Hp) : Prop := (way < 2 ∧ d = none) ∨ (2 ≤ way ∧ ∃ dx, d = some dx ∧ H dx = some (XdO dx (fldsOf way one other)))
theorem HasF.some {way : Nat} {one other : Int} {d : Option Addr} {H H' : Hp} (h : HasF way one other d H) (s : Same H H') : d = none ∨ ∃ dx fs, d = some dx ∧ H' dx = some (XdO dx fs) := by
  rcases h with ⟨_, e⟩ | ⟨_, dx, e, h⟩
  · exact .inl e
  · exact .inr ⟨dx, _, e, s _ _ h⟩
def spRaised (c : Nat → Addr) : Sp := fun vs H _ E => ∃ (i : Nat) (one other : Int), vs = [.int (i : Int), .int one, .int other] ∧ i < 7 ∧ ∀ d H', Same H H' → HasF i one other d H' → E (.ref (c i)) d H'
def kindsOf (i : Nat) : List Bool := [0 == i, 1 == i, 2 == i, 3 == i, 4 == i, 5 == i, 6 == i]
def spKinds (c : Nat → Addr) : Sp := fun vs H Q _ => ∃ (ea : Addr) (i : Nat) (d : Option Addr), vs = [.ref ea] ∧ i < 7 ∧ H ea = some (ExcH ea (c i) d) ∧ (d = none ∨ ∃ dx fs, d = some dx ∧ H dx = some (XdO dx fs)) ∧ ∀ p H', Same H H' → H' p = some (.lst ((kindsOf i).map V.bl)) → Q (.ref p) H'
def wantOf (i : Nat) (one other : Int) : List V := if i < 2 then [.int 1] else if i < 6 then [.int one] else [.int one, .int other]
def spFields (c : Nat → Addr) : Sp := fun vs H Q _ => ∃ (i : Nat) (one other : Int), vs = [.int (i : Int), .int one, .int other] ∧ i < 7 ∧ ∀ p H', Same H H' → H' p = some (.lst (wantOf i one other)) → Q (.ref p) H'
def spRight18 : Sp := fun vs H Q _ => ∃ (i : Nat) (one other : Int), vs = [.int (i : Int), .int one, .int other] ∧ i < 7 ∧ ∀ H', Same H H' → Q (.bl true) H'
theorem wantOf_flat {i : Nat} {one other : Int} : ∀ z, z ∈ wantOf i one other → flatV z = true := by
  intro z hz
  unfold wantOf at hz
  split at hz
  · rw [List.mem_singleton.mp hz]; rfl
  · split at hz
    · rw [List.mem_singleton.mp hz]; rfl
    · rcases List.mem_cons.mp hz with rfl | hz
      · rfl
      · rw [List.mem_singleton.mp hz]; rfl
theorem kinds_eq {i : Nat} (hi : i < 7) : eqTs ((kindsOf i).map V.bl) (((List.range 7).filter fun _ => true).map fun (j : Nat) => V.bl (decide (V.int (0 + (j : Int)) = V.int (i : Int)))) = true := by
  rcases i with _ | _ | _ | _ | _ | _ | _ | i
  · decide
  · decide
  · decide
  · decide
  · decide
  · decide
  · decide
  · omega
theorem rai1 {H : Hp} {E : XK} {C : Addr} {i : Int} (l : [V.int i].length ≤ sizeLine) (q : ∀ dx, H dx = none → E (.ref C) (some dx) (upd H dx (XdO dx [("at", .int i)]))) : RaiI (spInit1 C) E C [.int i] H :=
  ⟨l, fun ea he => ⟨ea, i, rfl, upd_same, fun dx h1 n => by
    rw [upd_ne n] at h1
    refine ⟨some dx, upd H dx (XdO dx [("at", .int i)]), rfl, ?_, ?_, fun b hb => ?_, q dx h1⟩
    · rw [upd_ne (Ne.symm n), upd_same]
    · rw [upd_ne (Ne.symm n)]; exact he
    · by_cases z : b = dx
      · rw [z, upd_same, upd_same]
      · rw [upd_ne z, upd_ne z, upd_ne hb, upd_ne hb]⟩⟩
theorem rai2 {H : Hp} {E : XK} {C : Addr} {i j : Int} (l : [V.int i, V.int j].length ≤ sizeLine) (q : ∀ dx, H dx = none → E (.ref C) (some dx) (upd H dx (XdO dx [("other", .int j), ("at", .int i)]))) : RaiI (spInit2 C) E C [.int i, .int j] H :=
  ⟨l, fun ea he => ⟨ea, i, j, rfl, upd_same, fun dx h1 n => by
    rw [upd_ne n] at h1
    refine ⟨some dx, upd H dx (XdO dx [("other", .int j), ("at", .int i)]), rfl, ?_, ?_, fun b hb => ?_, q dx h1⟩
    · rw [upd_ne (Ne.symm n), upd_ne (Ne.symm n), upd_same]
    · rw [upd_ne (Ne.symm n)]; exact he
    · by_cases z : b = dx
      · rw [z, upd_same, upd_same]
      · rw [upd_ne z, upd_ne z, upd_ne z, upd_ne hb, upd_ne hb]⟩⟩
end L2

set_option Elab.async false
set_option linter.all false
set_option maxRecDepth 100000
set_option maxHeartbeats 40000000
namespace K18
open PySem L2
def top (i : Nat) : Stmt := PySem.Challenge.pw_patchbough_k18_refusals_apart.main.body.getD i (.Pass ⟨0, 0, 0, 0⟩)
abbrev sCell : Stmt := top 10
abbrev sKinds : Stmt := top 11
abbrev sRaised : Stmt := top 12
abbrev sFields : Stmt := top 13
abbrev sRight : Stmt := top 14
abbrev sLaw : Stmt := top 15
abbrev sNoRowInit : Stmt := inClass (top 3) 0
abbrev sNoFitInit : Stmt := inClass (top 4) 0
abbrev sNoPatchInit : Stmt := inClass (top 5) 0
abbrev sNoTextInit : Stmt := inClass (top 7) 0
abbrev sClashInit : Stmt := inClass (top 6) 0
end K18

set_option Elab.async false
set_option linter.all false
set_option maxRecDepth 100000
set_option maxHeartbeats 40000000
namespace K18
open PySem L2
section
variable {P : Program} {w : World} {K : PySem.W.Frag} {mg : Str → Option Value} {base : Heap}
theorem scNoRowInit : FnScope ["self", "at"] ["self", "at"] (defScope sNoRowInit) := ⟨rfl, rfl, rfl, by decide +kernel, rfl, by decide +kernel, by decide +kernel⟩
theorem ok_NoRowInit {C f : Addr} {fd : FuncData} (F : Fun K "__init__" "NoRow.__init__" sNoRowInit f fd) (k : SKit K C "at") : FnOk P w K mg base CX0 1 f fd ["self", "at"] (spInit1 C) := by
  refine F.ok scNoRowInit (fun vs H Q E h => ?_) (fun cdv A outer s H vs Q E hr h => ?_)
  · obtain ⟨ea, i, rfl, he, q⟩ := h
    rfl
  · obtain ⟨ea, i, rfl, he, q⟩ := h
    refine ⟨_, (pss_one (ps_setF1 rfl (pv 0) (pv 1) rfl)), ?_⟩
    exact ⟨_, rfl, _, rfl, ea, C, rfl, he, k, fun dx h1 h2 => q dx h1 h2⟩
theorem scNoFitInit : FnScope ["self", "at"] ["self", "at"] (defScope sNoFitInit) := ⟨rfl, rfl, rfl, by decide +kernel, rfl, by decide +kernel, by decide +kernel⟩
theorem ok_NoFitInit {C f : Addr} {fd : FuncData} (F : Fun K "__init__" "NoFit.__init__" sNoFitInit f fd) (k : SKit K C "at") : FnOk P w K mg base CX0 1 f fd ["self", "at"] (spInit1 C) := by
  refine F.ok scNoFitInit (fun vs H Q E h => ?_) (fun cdv A outer s H vs Q E hr h => ?_)
  · obtain ⟨ea, i, rfl, he, q⟩ := h
    rfl
  · obtain ⟨ea, i, rfl, he, q⟩ := h
    refine ⟨_, (pss_one (ps_setF1 rfl (pv 0) (pv 1) rfl)), ?_⟩
    exact ⟨_, rfl, _, rfl, ea, C, rfl, he, k, fun dx h1 h2 => q dx h1 h2⟩
theorem scNoPatchInit : FnScope ["self", "at"] ["self", "at"] (defScope sNoPatchInit) := ⟨rfl, rfl, rfl, by decide +kernel, rfl, by decide +kernel, by decide +kernel⟩
theorem ok_NoPatchInit {C f : Addr} {fd : FuncData} (F : Fun K "__init__" "NoPatch.__init__" sNoPatchInit f fd) (k : SKit K C "at") : FnOk P w K mg base CX0 1 f fd ["self", "at"] (spInit1 C) := by
  refine F.ok scNoPatchInit (fun vs H Q E h => ?_) (fun cdv A outer s H vs Q E hr h => ?_)
  · obtain ⟨ea, i, rfl, he, q⟩ := h
    rfl
  · obtain ⟨ea, i, rfl, he, q⟩ := h
    refine ⟨_, (pss_one (ps_setF1 rfl (pv 0) (pv 1) rfl)), ?_⟩
    exact ⟨_, rfl, _, rfl, ea, C, rfl, he, k, fun dx h1 h2 => q dx h1 h2⟩
theorem scNoTextInit : FnScope ["self", "at"] ["self", "at"] (defScope sNoTextInit) := ⟨rfl, rfl, rfl, by decide +kernel, rfl, by decide +kernel, by decide +kernel⟩
theorem ok_NoTextInit {C f : Addr} {fd : FuncData} (F : Fun K "__init__" "NoText.__init__" sNoTextInit f fd) (k : SKit K C "at") : FnOk P w K mg base CX0 1 f fd ["self", "at"] (spInit1 C) := by
  refine F.ok scNoTextInit (fun vs H Q E h => ?_) (fun cdv A outer s H vs Q E hr h => ?_)
  · obtain ⟨ea, i, rfl, he, q⟩ := h
    rfl
  · obtain ⟨ea, i, rfl, he, q⟩ := h
    refine ⟨_, (pss_one (ps_setF1 rfl (pv 0) (pv 1) rfl)), ?_⟩
    exact ⟨_, rfl, _, rfl, ea, C, rfl, he, k, fun dx h1 h2 => q dx h1 h2⟩
theorem scClashInit : FnScope ["self", "at", "other"] ["self", "at", "other"] (defScope sClashInit) := ⟨rfl, rfl, rfl, by decide +kernel, rfl, by decide +kernel, by decide +kernel⟩
theorem ok_ClashInit {C f : Addr} {fd : FuncData} (F : Fun K "__init__" "Clash.__init__" sClashInit f fd) (k : SKit K C "at") (k2 : SKit K C "other") : FnOk P w K mg base CX0 1 f fd ["self", "at", "other"] (spInit2 C) := by
  refine F.ok scClashInit (fun vs H Q E h => ?_) (fun cdv A outer s H vs Q E hr h => ?_)
  · obtain ⟨ea, i, j, rfl, he, q⟩ := h
    rfl
  · obtain ⟨ea, i, j, rfl, he, q⟩ := h
    refine ⟨_, (pss_cons (ps_setF1 rfl (pv 0) (pv 1) rfl) (pss_one (ps_setF2 (pv 0) (pv 2) rfl))), ?_⟩
    exact ⟨_, rfl, _, rfl, ea, C, rfl, he, k, fun dx h1 h2 => ⟨_, rfl, _, rfl, ea, C, dx, _, rfl, by rw [upd_ne (Ne.symm h2), upd_same], upd_same, h2, (by simp), k2, q dx h1 h2⟩⟩
end
end K18

set_option Elab.async false
set_option linter.all false
set_option maxRecDepth 100000
set_option maxHeartbeats 40000000
namespace K18
open PySem L2
section
variable {P : Program} {w : World} {K : PySem.W.Frag} {mg : Str → Option Value} {base : Heap}
theorem scCell : FnScope ["_law_script", "_law_k"] ["_law_script", "_law_k"] (defScope sCell) := ⟨rfl, rfl, rfl, by decide +kernel, rfl, by decide +kernel, by decide +kernel⟩
theorem ok_Cell {f : Addr} {fd : FuncData} (F : Fun K "_law_cell" "_law_cell" sCell f fd) (T : Txt mg) : FnOk P w K mg base CX0 1 f fd ["_law_script", "_law_k"] (spCell K) := by
  refine F.ok scCell (fun vs H Q E h => ?_) (fun cdv A outer s H vs Q E hr h => ?_)
  · obtain ⟨a, ns, k, rfl, hS, q⟩ := h
    rfl
  · obtain ⟨a, ns, k, rfl, hS, q⟩ := h
    have nd := scCell.nd
    have hu := hu_of hr
    refine ⟨_, (pss_cons (ps_if (pt_cmpR op_lt (pv 1) (pe_callB call_len_seq rfl T.len PySem.boot_len (pa_cons (pv 0) pa_nil)) (nomark _)) (pss_one (ps_ret (pe_op op_mod (pe_ix (r := rIxL K) ix_list (pv 0) (pv 1) (fun _ _ => rfl)) (pe_op op_pow pe_int pe_int)))) pss_nil)
      (pss_one (ps_ret (pe_op op_add pe_int (pe_op op_mul pe_int (pv 1)))))), ?_⟩
    refine ⟨_, rfl, _, rfl, a, _, rfl, .inl hS, _, _, rfl, rfl, _, rfl, ?_⟩
    refine ite2 (fun h1 => ?_) (fun h1 => ?_)
    · have hk : k < ns.length := by
        have := of_decide_eq_true h1
        rw [List.length_map] at this
        omega
      have hx : (ns.map V.int)[k]? = some (.int ns[k]) := by rw [List.getElem?_map, List.getElem?_eq_getElem hk]; rfl
      exact ⟨_, rfl, _, rfl, a, _, _, _, rfl, rfl, hS, atI_nat hx, _, _, rfl, rfl, ⟨by decide, by decide, by decide⟩, _, _, rfl, rfl, (by show (0 : Int) < _; decide), q _ (Int.emod_nonneg _ (by decide))⟩
    · exact ⟨_, rfl, _, _, rfl, rfl, .inl ⟨by decide, by decide⟩, _, _, rfl, rfl, q _ (by omega)⟩
end
end K18

set_option Elab.async false
set_option linter.all false
set_option maxRecDepth 100000
set_option maxHeartbeats 40000000
namespace K18
open PySem L2
section
variable {P : Program} {w : World} {K : PySem.W.Frag} {mg : Str → Option Value} {base : Heap}
theorem scKinds : FnScope ["_law_e", "_law_some"] ["_law_e"] (defScope sKinds) := ⟨rfl, rfl, rfl, by decide +kernel, rfl, by decide +kernel, by decide +kernel⟩
theorem ok_Kinds {c fi : Nat → Addr} {cB : Addr} {f : Addr} {fd : FuncData} (F : Fun K "_law_kinds" "_law_kinds" sKinds f fd) (T : Txt mg) (N : Nm mg c cB) (kn : Kn K c cB fi) : FnOkN P w K mg base CX0 1 f fd ["_law_e"] (spKinds c) := by
  refine F.okN scKinds (fun vs H Q E h => ?_) (fun cdv A outer s H vs Q E hr h => ?_)
  · obtain ⟨ea, i, d, rfl, hi, hH, hd, q⟩ := h
    rfl
  · obtain ⟨ea, i, d, rfl, hi, hH, hd, q⟩ := h
    have nd := scKinds.nd
    have kitX := kn.kit i hi
    refine ⟨_, (pss_cons (ps_set (i := 1) nd rfl (Or.inl rfl) (pe_lst (pa_cons (pe_callB (call_isiH kitX : CallR _ _ (IsiH K (c i))) rfl T.isinstance b_isinstance (pa_cons (pv 0) (pa_cons (pe_glob (v := .ref (c 0)) rfl N.NoPart rfl) pa_nil))) (pa_cons (pe_callB (call_isiH kitX : CallR _ _ (IsiH K (c i))) rfl T.isinstance b_isinstance (pa_cons (pv 0) (pa_cons (pe_glob (v := .ref (c 1)) rfl N.NoDeed rfl) pa_nil))) (pa_cons (pe_callB (call_isiH kitX : CallR _ _ (IsiH K (c i))) rfl T.isinstance b_isinstance (pa_cons (pv 0) (pa_cons (pe_glob (v := .ref (c 2)) rfl N.NoRow rfl) pa_nil))) (pa_cons (pe_callB (call_isiH kitX : CallR _ _ (IsiH K (c i))) rfl T.isinstance b_isinstance (pa_cons (pv 0) (pa_cons (pe_glob (v := .ref (c 3)) rfl N.NoFit rfl) pa_nil))) pa_nil))))))
      (pss_one (ps_ret (pe_op op_cat (pv 1) (pe_lst (pa_cons (pe_callB (call_isiH kitX : CallR _ _ (IsiH K (c i))) rfl T.isinstance b_isinstance (pa_cons (pv 0) (pa_cons (pe_glob (v := .ref (c 4)) rfl N.NoPatch rfl) pa_nil))) (pa_cons (pe_callB (call_isiH kitX : CallR _ _ (IsiH K (c i))) rfl T.isinstance b_isinstance (pa_cons (pv 0) (pa_cons (pe_glob (v := .ref (c 5)) rfl N.NoText rfl) pa_nil))) (pa_cons (pe_callB (call_isiH kitX : CallR _ _ (IsiH K (c i))) rfl T.isinstance b_isinstance (pa_cons (pv 0) (pa_cons (pe_glob (v := .ref (c 6)) rfl N.Clash rfl) pa_nil))) pa_nil)))))))), ?_⟩
    refine ⟨_, rfl, ea, d, _, _, _, rfl, hH, hd, fun _ z => z, kn.one i hi 0 (by decide), _, rfl, ea, d, _, _, _, rfl, hH, hd, fun _ z => z, kn.one i hi 1 (by decide), _, rfl, ea, d, _, _, _, rfl, hH, hd, fun _ z => z, kn.one i hi 2 (by decide), _, rfl, ea, d, _, _, _, rfl, hH, hd, fun _ z => z, kn.one i hi 3 (by decide), le_line (show 4 ≤ 1000 by decide), fun l1 h1 => ?_⟩
    have t1 := Same.new (o := .lst [.bl (0 == i), .bl (1 == i), .bl (2 == i), .bl (3 == i)]) h1
    have hH1 := t1 _ _ hH
    have hd1 : d = none ∨ ∃ dx fs, d = some dx ∧ upd H l1 (.lst [.bl (0 == i), .bl (1 == i), .bl (2 == i), .bl (3 == i)]) dx = some (XdO dx fs) := hd.imp id fun ⟨dx, fs, e, h⟩ => ⟨dx, fs, e, t1 _ _ h⟩
    refine ⟨_, rfl, _, rfl, ea, d, _, _, _, rfl, hH1, hd1, fun _ z => z, kn.one i hi 4 (by decide), _, rfl, ea, d, _, _, _, rfl, hH1, hd1, fun _ z => z, kn.one i hi 5 (by decide), _, rfl, ea, d, _, _, _, rfl, hH1, hd1, fun _ z => z, kn.one i hi 6 (by decide), le_line (show 3 ≤ 1000 by decide), fun l2 h2 => ?_⟩
    have t2 := Same.new (o := .lst [.bl (4 == i), .bl (5 == i), .bl (6 == i)]) h2
    refine ⟨l1, l2, _, _, rfl, rfl, t2 _ _ upd_same, upd_same, le_line (show 4 + 3 ≤ 1000 by decide), fun l3 h3 => ?_⟩
    exact q l3 _ ((t1.trans t2).trans (Same.new h3)) upd_same
end
end K18

set_option Elab.async false
set_option linter.all false
set_option maxRecDepth 100000
set_option maxHeartbeats 40000000
namespace K18
open PySem L2
section
variable {P : Program} {w : World} {K : PySem.W.Frag} {mg : Str → Option Value} {base : Heap}
theorem scRaised : FnScope ["_law_way", "_law_one", "_law_other"] ["_law_way", "_law_one", "_law_other"] (defScope sRaised) := ⟨rfl, rfl, rfl, by decide +kernel, rfl, by decide +kernel, by decide +kernel⟩
theorem ok_Raised {c fi : Nat → Addr} {cB : Addr} {f : Addr} {fd : FuncData} (F : Fun K "_law_raised" "_law_raised" sRaised f fd) (T : Txt mg) (N : Nm mg c cB) (kn : Kn K c cB fi) (I2 : In1 P w K mg base (fi 2) ["self", "at"] (spInit1 (c 2))) (I3 : In1 P w K mg base (fi 3) ["self", "at"] (spInit1 (c 3))) (I4 : In1 P w K mg base (fi 4) ["self", "at"] (spInit1 (c 4))) (I5 : In1 P w K mg base (fi 5) ["self", "at"] (spInit1 (c 5))) (I6 : In1 P w K mg base (fi 6) ["self", "at", "other"] (spInit2 (c 6))) : FnOk P w K mg base (CXD P w) 3 f fd ["_law_way", "_law_one", "_law_other"] (spRaised c) := by
  obtain ⟨fdNoRow, GINoRow, bINoRow, hINoRow⟩ := I2
  obtain ⟨fdNoFit, GINoFit, bINoFit, hINoFit⟩ := I3
  obtain ⟨fdNoPatch, GINoPatch, bINoPatch, hINoPatch⟩ := I4
  obtain ⟨fdNoText, GINoText, bINoText, hINoText⟩ := I5
  obtain ⟨fdClash, GIClash, bIClash, hIClash⟩ := I6
  refine F.okD scRaised (fun vs H Q E h => ?_) (fun cdv A outer s H vs Q E hr h => ?_)
  · obtain ⟨i, one, other, rfl, hi, q⟩ := h
    rfl
  · obtain ⟨i, one, other, rfl, hi, q⟩ := h
    have nd := scRaised.nd
    have hu := hu_of hr
    have hrI : Room 2 _ := hr.mono (by decide)
    have qXNoPart := kn.plain 0 (by decide)
    have qXNoDeed := kn.plain 1 (by decide)
    have qINoRow : ownInI K (c 2) (fi 2) = true := kn.own 0 (by decide)
    have qINoFit : ownInI K (c 3) (fi 3) = true := kn.own 1 (by decide)
    have qINoPatch : ownInI K (c 4) (fi 4) = true := kn.own 2 (by decide)
    have qINoText : ownInI K (c 5) (fi 5) = true := kn.own 3 (by decide)
    have qIClash : ownInI K (c 6) (fi 6) = true := kn.own 4 (by decide)
    refine ⟨_, (pss_cons (ps_if (pt_cmpR op_eq (pv 0) pe_int (nomark _)) (pss_one (ps_raiseD rfl rfl rfl N.NoPart qXNoPart raisesD (pa_cons pe_str pa_nil))) pss_nil)
      (pss_cons (ps_if (pt_cmpR op_eq (pv 0) pe_int (nomark _)) (pss_one (ps_raiseD rfl rfl rfl N.NoDeed qXNoDeed raisesD (pa_cons pe_str pa_nil))) pss_nil)
      (pss_cons (ps_if (pt_cmpR op_eq (pv 0) pe_int (nomark _)) (pss_one (ps_raiseI rfl rfl rfl N.NoRow qINoRow GINoRow hrI bINoRow hINoRow raisesD (pa_cons (pv 1) pa_nil))) pss_nil)
      (pss_cons (ps_if (pt_cmpR op_eq (pv 0) pe_int (nomark _)) (pss_one (ps_raiseI rfl rfl rfl N.NoFit qINoFit GINoFit hrI bINoFit hINoFit raisesD (pa_cons (pv 1) pa_nil))) pss_nil)
      (pss_cons (ps_if (pt_cmpR op_eq (pv 0) pe_int (nomark _)) (pss_one (ps_raiseI rfl rfl rfl N.NoPatch qINoPatch GINoPatch hrI bINoPatch hINoPatch raisesD (pa_cons (pv 1) pa_nil))) pss_nil)
      (pss_cons (ps_if (pt_cmpR op_eq (pv 0) pe_int (nomark _)) (pss_one (ps_raiseI rfl rfl rfl N.NoText qINoText GINoText hrI bINoText hINoText raisesD (pa_cons (pv 1) pa_nil))) pss_nil)
      (pss_one (ps_raiseI rfl rfl rfl N.Clash qIClash GIClash hrI bIClash hIClash raisesD (pa_cons (pv 1) (pa_cons (pv 2) pa_nil)))))))))), ?_⟩
    rcases i with _ | _ | _ | _ | _ | _ | _ | i
    · exact ⟨_, rfl, rfl, _, rfl, iteBT (by decide) ⟨one_line, q none H (Same.refl _) (.inl ⟨by decide, rfl⟩)⟩⟩
    · exact ⟨_, rfl, rfl, _, rfl, iteBF (by decide) ⟨_, rfl, rfl, _, rfl, iteBT (by decide) ⟨one_line, q none H (Same.refl _) (.inl ⟨by decide, rfl⟩)⟩⟩⟩
    · exact ⟨_, rfl, rfl, _, rfl, iteBF (by decide) ⟨_, rfl, rfl, _, rfl, iteBF (by decide) ⟨_, rfl, rfl, _, rfl, iteBT (by decide) ⟨_, rfl, rai1 one_line fun dx h => q (some dx) _ (Same.new h) (.inr ⟨by decide, dx, rfl, upd_same⟩)⟩⟩⟩⟩
    · exact ⟨_, rfl, rfl, _, rfl, iteBF (by decide) ⟨_, rfl, rfl, _, rfl, iteBF (by decide) ⟨_, rfl, rfl, _, rfl, iteBF (by decide) ⟨_, rfl, rfl, _, rfl, iteBT (by decide) ⟨_, rfl, rai1 one_line fun dx h => q (some dx) _ (Same.new h) (.inr ⟨by decide, dx, rfl, upd_same⟩)⟩⟩⟩⟩⟩
    · exact ⟨_, rfl, rfl, _, rfl, iteBF (by decide) ⟨_, rfl, rfl, _, rfl, iteBF (by decide) ⟨_, rfl, rfl, _, rfl, iteBF (by decide) ⟨_, rfl, rfl, _, rfl, iteBF (by decide) ⟨_, rfl, rfl, _, rfl, iteBT (by decide) ⟨_, rfl, rai1 one_line fun dx h => q (some dx) _ (Same.new h) (.inr ⟨by decide, dx, rfl, upd_same⟩)⟩⟩⟩⟩⟩⟩
    · exact ⟨_, rfl, rfl, _, rfl, iteBF (by decide) ⟨_, rfl, rfl, _, rfl, iteBF (by decide) ⟨_, rfl, rfl, _, rfl, iteBF (by decide) ⟨_, rfl, rfl, _, rfl, iteBF (by decide) ⟨_, rfl, rfl, _, rfl, iteBF (by decide) ⟨_, rfl, rfl, _, rfl, iteBT (by decide) ⟨_, rfl, rai1 one_line fun dx h => q (some dx) _ (Same.new h) (.inr ⟨by decide, dx, rfl, upd_same⟩)⟩⟩⟩⟩⟩⟩⟩
    · exact ⟨_, rfl, rfl, _, rfl, iteBF (by decide) ⟨_, rfl, rfl, _, rfl, iteBF (by decide) ⟨_, rfl, rfl, _, rfl, iteBF (by decide) ⟨_, rfl, rfl, _, rfl, iteBF (by decide) ⟨_, rfl, rfl, _, rfl, iteBF (by decide) ⟨_, rfl, rfl, _, rfl, iteBF (by decide) ⟨_, rfl, _, rfl, rai2 two_line fun dx h => q (some dx) _ (Same.new h) (.inr ⟨by decide, dx, rfl, upd_same⟩)⟩⟩⟩⟩⟩⟩⟩
    · omega
end
end K18

set_option Elab.async false
set_option linter.all false
set_option maxRecDepth 100000
set_option maxHeartbeats 40000000
namespace K18
open PySem L2
section
variable {P : Program} {w : World} {K : PySem.W.Frag} {mg : Str → Option Value} {base : Heap}
theorem scFields : FnScope ["_law_way", "_law_one", "_law_other", "_law_e"] ["_law_way", "_law_one", "_law_other"] (defScope sFields) := ⟨rfl, rfl, rfl, by decide +kernel, rfl, by decide +kernel, by decide +kernel⟩
theorem ok_Fields {c fi : Nat → Addr} {cB : Addr} {f : Addr} {fd : FuncData} (F : Fun K "_law_fields" "_law_fields" sFields f fd) (T : Txt mg) (DKinds : DfN P w K mg base "_law_kinds" ["_law_e"] 1 (spKinds c)) (DRaised : DfD P w K mg base "_law_raised" ["_law_way", "_law_one", "_law_other"] 3 (spRaised c)) (N : Nm mg c cB) (kn : Kn K c cB fi) : FnOk P w K mg base CX0 4 f fd ["_law_way", "_law_one", "_law_other"] (spFields c) := by
  obtain ⟨fKinds, dKinds, kKinds, bKinds, mKinds, GKinds⟩ := DKinds.ex
  obtain ⟨fRaised, dRaised, kRaised, bRaised, mRaised, GRaised⟩ := DRaised.ex
  refine F.ok scFields (fun vs H Q E h => ?_) (fun cdv A outer s H vs Q E hr h => ?_)
  · obtain ⟨i, one, other, rfl, hi, q⟩ := h
    rfl
  · obtain ⟨i, one, other, rfl, hi, q⟩ := h
    have nd := scFields.nd
    have hu := hu_of hr
    have hrNKinds := fun v => Room.held (k := 1) (hr.mono (by first | decide | omega)) v
    have hrRaised : Room 3 _ := hr.mono (by first | decide | omega)
    refine ⟨_, (pss_cons (ps_tryC rfl rfl rfl GRaised hrRaised rfl mRaised kRaised bRaised (pa_cons (pv 0) (pa_cons (pv 1) (pa_cons (pv 2) pa_nil))) (ph_cons rfl N.NoRow (kn.ex 2 (by decide)) nd (i := 3) rfl rfl (fun e => (pss_one (ps_ret (pe_lst (pa_cons (show PE _ _ (tFldE K _ _) from pe_fldE (pv 3) (by rfl)) pa_nil)))))
      (ph_cons rfl N.NoFit (kn.ex 3 (by decide)) nd (i := 3) rfl rfl (fun e => (pss_one (ps_ret (pe_lst (pa_cons (show PE _ _ (tFldE K _ _) from pe_fldE (pv 3) (by rfl)) pa_nil)))))
      (ph_cons rfl N.NoPatch (kn.ex 4 (by decide)) nd (i := 3) rfl rfl (fun e => (pss_one (ps_ret (pe_lst (pa_cons (show PE _ _ (tFldE K _ _) from pe_fldE (pv 3) (by rfl)) pa_nil)))))
      (ph_cons rfl N.NoText (kn.ex 5 (by decide)) nd (i := 3) rfl rfl (fun e => (pss_one (ps_ret (pe_lst (pa_cons (show PE _ _ (tFldE K _ _) from pe_fldE (pv 3) (by rfl)) pa_nil)))))
      (ph_cons rfl N.Clash (kn.ex 6 (by decide)) nd (i := 3) rfl rfl (fun e => (pss_one (ps_ret (pe_lst (pa_cons (show PE _ _ (tFldE K _ _) from pe_fldE (pv 3) (by rfl)) (pa_cons (show PE _ _ (tFldE K _ _) from pe_fldE (pv 3) (by rfl)) pa_nil))))))
      (ph_cons rfl N.BoughError (kn.exB) nd (i := 3) rfl rfl (fun e => (pss_one (ps_ret (pe_lst (pa_cons (show PE _ _ (tBM K _ _ _ _) from pe_bm PySem.F.plainAttrs_list PySem.F.slot_list_count PySem.F.type_list_count mt_count (pe_callN GKinds (hrNKinds _) (by rfl) mKinds kKinds bKinds .nil pass0 (pa_cons (pv 3) pa_nil)) (pa_cons pe_bl pa_nil)) pa_nil)))))
      ph_nil)))))))
      (pss_one (ps_ret (pe_lst pa_nil)))), ?_⟩
    refine ⟨_, rfl, _, rfl, _, rfl, i, one, other, rfl, hi, fun d H1 s1 hf => ⟨c i, rfl, kn.ex i hi, ?_⟩⟩
    rcases i with _ | _ | _ | _ | _ | _ | _ | i
    · exact .miss (kn.sub2 0 (by decide) 2 (by decide)) (.miss (kn.sub2 0 (by decide) 3 (by decide)) (.miss (kn.sub2 0 (by decide) 4 (by decide)) (.miss (kn.sub2 0 (by decide) 5 (by decide)) (.miss (kn.sub2 0 (by decide) 6 (by decide)) (.hit (kn.sub 0 (by decide)) fun ea he => ⟨_, rfl, ea, 0, d, rfl, by decide, upd_same, hf.some (Same.new he), fun p H2 s2 hp => ⟨.inl ⟨rfl, _, SqL.of hp⟩, p, kindsOf 0, rfl, rfl, hp, one_line, fun p2 h2 => q p2 _ (((s1.trans (Same.new he)).trans s2).trans (Same.new h2)) upd_same⟩⟩)))))
    · exact .miss (kn.sub2 1 (by decide) 2 (by decide)) (.miss (kn.sub2 1 (by decide) 3 (by decide)) (.miss (kn.sub2 1 (by decide) 4 (by decide)) (.miss (kn.sub2 1 (by decide) 5 (by decide)) (.miss (kn.sub2 1 (by decide) 6 (by decide)) (.hit (kn.sub 1 (by decide)) fun ea he => ⟨_, rfl, ea, 1, d, rfl, by decide, upd_same, hf.some (Same.new he), fun p H2 s2 hp => ⟨.inl ⟨rfl, _, SqL.of hp⟩, p, kindsOf 1, rfl, rfl, hp, one_line, fun p2 h2 => q p2 _ (((s1.trans (Same.new he)).trans s2).trans (Same.new h2)) upd_same⟩⟩)))))
    · rcases hf with ⟨h, _⟩ | ⟨_, dx, rfl, hx⟩
      · exact absurd h (by decide)
      · exact .hit (kn.sub2 2 (by decide) 2 (by decide)) fun ea he => ⟨_, rfl, ea, c 2, dx, _, one, rfl, upd_same, Same.new he _ _ hx, rfl, kn.gk 0 (by decide), one_line, fun p hp => q p _ ((s1.trans (Same.new he)).trans (Same.new hp)) upd_same⟩
    · rcases hf with ⟨h, _⟩ | ⟨_, dx, rfl, hx⟩
      · exact absurd h (by decide)
      · exact .miss (kn.sub2 3 (by decide) 2 (by decide)) (.hit (kn.sub2 3 (by decide) 3 (by decide)) fun ea he => ⟨_, rfl, ea, c 3, dx, _, one, rfl, upd_same, Same.new he _ _ hx, rfl, kn.gk 1 (by decide), one_line, fun p hp => q p _ ((s1.trans (Same.new he)).trans (Same.new hp)) upd_same⟩)
    · rcases hf with ⟨h, _⟩ | ⟨_, dx, rfl, hx⟩
      · exact absurd h (by decide)
      · exact .miss (kn.sub2 4 (by decide) 2 (by decide)) (.miss (kn.sub2 4 (by decide) 3 (by decide)) (.hit (kn.sub2 4 (by decide) 4 (by decide)) fun ea he => ⟨_, rfl, ea, c 4, dx, _, one, rfl, upd_same, Same.new he _ _ hx, rfl, kn.gk 2 (by decide), one_line, fun p hp => q p _ ((s1.trans (Same.new he)).trans (Same.new hp)) upd_same⟩))
    · rcases hf with ⟨h, _⟩ | ⟨_, dx, rfl, hx⟩
      · exact absurd h (by decide)
      · exact .miss (kn.sub2 5 (by decide) 2 (by decide)) (.miss (kn.sub2 5 (by decide) 3 (by decide)) (.miss (kn.sub2 5 (by decide) 4 (by decide)) (.hit (kn.sub2 5 (by decide) 5 (by decide)) fun ea he => ⟨_, rfl, ea, c 5, dx, _, one, rfl, upd_same, Same.new he _ _ hx, rfl, kn.gk 3 (by decide), one_line, fun p hp => q p _ ((s1.trans (Same.new he)).trans (Same.new hp)) upd_same⟩)))
    · rcases hf with ⟨h, _⟩ | ⟨_, dx, rfl, hx⟩
      · exact absurd h (by decide)
      · exact .miss (kn.sub2 6 (by decide) 2 (by decide)) (.miss (kn.sub2 6 (by decide) 3 (by decide)) (.miss (kn.sub2 6 (by decide) 4 (by decide)) (.miss (kn.sub2 6 (by decide) 5 (by decide)) (.hit (kn.sub2 6 (by decide) 6 (by decide)) fun ea he => ⟨_, rfl, ea, c 6, dx, _, one, rfl, upd_same, Same.new he _ _ hx, rfl, kn.gk 4 (by decide), _, rfl, ea, c 6, dx, _, other, rfl, upd_same, Same.new he _ _ hx, rfl, kn.gk6, two_line, fun p hp => q p _ ((s1.trans (Same.new he)).trans (Same.new hp)) upd_same⟩))))
    · omega
end
end K18

set_option Elab.async false
set_option linter.all false
set_option maxRecDepth 100000
set_option maxHeartbeats 40000000
namespace K18
open PySem L2
section
variable {P : Program} {w : World} {K : PySem.W.Frag} {mg : Str → Option Value} {base : Heap}
theorem scRight : FnScope ["_law_way", "_law_one", "_law_other", "_law_kinds_here", "_law_e"] ["_law_way", "_law_one", "_law_other"] (defScope sRight) := ⟨rfl, rfl, rfl, by decide +kernel, rfl, by decide +kernel, by decide +kernel⟩
theorem ok_Right {c fi : Nat → Addr} {cB : Addr} {f : Addr} {fd : FuncData} (F : Fun K "_law_right" "_law_right" sRight f fd) (T : Txt mg) (DKinds : DfN P w K mg base "_law_kinds" ["_law_e"] 1 (spKinds c)) (DRaised : DfD P w K mg base "_law_raised" ["_law_way", "_law_one", "_law_other"] 3 (spRaised c)) (DFields : Df P w K mg base "_law_fields" ["_law_way", "_law_one", "_law_other"] 4 (spFields c)) (N : Nm mg c cB) (kn : Kn K c cB fi) : FnOk P w K mg base CX0 5 f fd ["_law_way", "_law_one", "_law_other"] spRight18 := by
  obtain ⟨fKinds, dKinds, kKinds, bKinds, mKinds, GKinds⟩ := DKinds.ex
  obtain ⟨fRaised, dRaised, kRaised, bRaised, mRaised, GRaised⟩ := DRaised.ex
  obtain ⟨fFields, dFields, kFields, bFields, mFields, GFields⟩ := DFields.ex
  refine F.ok scRight (fun vs H Q E h => ?_) (fun cdv A outer s H vs Q E hr h => ?_)
  · obtain ⟨i, one, other, rfl, hi, q⟩ := h
    rfl
  · obtain ⟨i, one, other, rfl, hi, q⟩ := h
    have nd := scRight.nd
    have hu := hu_of hr
    have hrNKinds := fun v => Room.held (k := 1) (hr.mono (by first | decide | omega)) v
    have hrRaised : Room 3 _ := hr.mono (by first | decide | omega)
    have hrFields : Room 4 _ := hr.mono (by first | decide | omega)
    have kitX := kn.kit i hi
    refine ⟨_, (pss_cons (ps_set (i := 3) nd rfl (Or.inl rfl) (pe_lst pa_nil))
      (pss_cons (ps_tryC rfl rfl rfl GRaised hrRaised rfl mRaised kRaised bRaised (pa_cons (pv 0) (pa_cons (pv 1) (pa_cons (pv 2) pa_nil))) (ph_cons rfl N.BoughError (kn.exB) nd (i := 4) rfl rfl (fun e => (pss_cons (ps_set (i := 3) nd rfl (Or.inl rfl) (pe_callN GKinds (hrNKinds _) (by rfl) mKinds kKinds bKinds .nil pass0 (pa_cons (pv 4) pa_nil)))
      (pss_one (ps_if (pt_not (pt_val (pe_callB (call_isiH kitX : CallR _ _ (IsiH K (c i))) rfl T.isinstance b_isinstance (pa_cons (pv 4) (pa_cons (pe_bltn (v := .ty "ValueError") rfl T.ValueError b_ValueError rfl) pa_nil))))) (pss_one (ps_ret pe_bl)) pss_nil))))
      ph_nil))
      (pss_cons (ps_if (pt_cmpR (op_neL (Room.units0 hr)) (pv 3) (pe_comp (fv := ["_law_way"]) (fs := [0]) rfl (.of (by rfl)) (pi_range1 rfl T.range (pa_cons pe_int pa_nil)) (fun _ _ _ _ => pts_nil) (fun C s0 H0 fp => (pe_cmpR op_eq (pv 0) (pv 1) (nomark _)))) (nomark _)) (pss_one (ps_ret pe_bl)) pss_nil)
      (pss_one (ps_ret (pe_cmpR (op_eqL (Room.units0 hr)) (pe_call GFields hrFields rfl mFields kFields bFields .nil pass0 (pa_cons (pv 0) (pa_cons (pv 1) (pa_cons (pv 2) pa_nil)))) (pe_ix (r := rIxL K) ix_list (pe_lst (pa_cons (pe_lst (pa_cons pe_int pa_nil)) (pa_cons (pe_lst (pa_cons pe_int pa_nil)) (pa_cons (pe_lst (pa_cons (pv 1) pa_nil)) (pa_cons (pe_lst (pa_cons (pv 1) pa_nil)) (pa_cons (pe_lst (pa_cons (pv 1) pa_nil)) (pa_cons (pe_lst (pa_cons (pv 1) pa_nil)) (pa_cons (pe_lst (pa_cons (pv 1) (pa_cons (pv 2) pa_nil))) pa_nil)))))))) (pv 0) (fun _ _ => rfl)) (nomark _))))))), ?_⟩
    refine ⟨Nat.zero_le _, fun l0 h0 => ?_⟩
    have t0 := Same.new (o := .lst []) h0
    refine ⟨_, rfl, _, rfl, _, rfl, i, one, other, rfl, hi, fun d H1 s1 hf => ⟨c i, rfl, kn.ex i hi, .hit (kn.sub i hi) fun ea he => ?_⟩⟩
    have t1 := Same.new (o := ExcH ea (c i) d) he
    refine ⟨_, rfl, ea, i, d, rfl, hi, upd_same, hf.some t1, fun p H2 s2 hp => ?_⟩
    refine ⟨_, rfl, ea, d, _, _, _, rfl, s2 _ _ upd_same, hf.some (t1.trans s2), fun _ z => z, kn.ve i hi, _, rfl, iteF ?_⟩
    refine ⟨_, rfl, 7, rfl, by decide, by decide, comp_pure (n := 7) (fun j => .int (0 + (j : Int))) (fun j => .bl (decide (V.int (0 + (j : Int)) = V.int (i : Int)))) (fun _ => true) (le_line (show 7 ≤ 1000 by decide)) (fun j D ys hj hD => hj) (fun j D ys v H' hj hD y => ⟨y.2, y.1⟩) (fun D ys hD => Nat.le_refl _) (fun j D ys R hj hD r => by exact r) (fun j D ys R hj hD _ r => ⟨_, rfl, _, rfl, rfl, r⟩) fun D hD => ?_⟩
    have t2 := Same.new (o := .lst (((List.range 7).filter fun _ => true).map fun (j : Nat) => V.bl (decide (V.int (0 + (j : Int)) = V.int (i : Int))))) hD
    refine ⟨p, D, _, _, rfl, rfl, SqL.of (t2 _ _ hp), SqL.of upd_same, fun z hz => ?_, fun z hz => ?_, _, rfl, iteBF (by rw [if_pos rfl, kinds_eq hi]; rfl) ?_⟩
    · obtain ⟨b, _, rfl⟩ := List.mem_map.mp hz
      rfl
    · obtain ⟨b, _, rfl⟩ := List.mem_map.mp hz
      rfl
    refine ⟨_, rfl, _, rfl, _, rfl, i, one, other, rfl, hi, fun pf H3 s3 hpf => ?_⟩
    refine ⟨one_line, fun a0 n0 => ⟨one_line, fun a1 n1 => ⟨_, rfl, one_line, fun a2 n2 => ⟨_, rfl, one_line, fun a3 n3 => ⟨_, rfl, one_line, fun a4 n4 => ⟨_, rfl, one_line, fun a5 n5 => ⟨_, rfl, _, rfl, two_line, fun a6 n6 => ⟨le_line (show 7 ≤ 1000 by decide), fun L nL => ?_⟩⟩⟩⟩⟩⟩⟩⟩
    have eL := Same.new (o := .lst [.ref a0, .ref a1, .ref a2, .ref a3, .ref a4, .ref a5, .ref a6]) nL
    have e6 := Same.new (o := .lst [.int one, .int other]) n6
    have e5 := Same.new (o := .lst [.int one]) n5
    have e4 := Same.new (o := .lst [.int one]) n4
    have e3 := Same.new (o := .lst [.int one]) n3
    have e2 := Same.new (o := .lst [.int one]) n2
    have e1 := Same.new (o := .lst [.int 1]) n1
    have e0 := Same.new (o := .lst [.int 1]) n0
    have b6 := e6.trans eL
    have b5 := e5.trans b6
    have b4 := e4.trans b5
    have b3 := e3.trans b4
    have b2 := e2.trans b3
    have b1 := e1.trans b2
    have b0 := e0.trans b1
    have fin := (((((t0.trans s1).trans t1).trans s2).trans t2).trans s3).trans b0
    have g : ∀ z, z ∈ wantOf i one other → flatV z = true := wantOf_flat
    have pf' := SqL.of (K := K) (b0 _ _ hpf)
    have key : ∃ x, ([.ref a0, .ref a1, .ref a2, .ref a3, .ref a4, .ref a5, .ref a6] : List V)[i]? = some (V.ref x) ∧ (upd (upd (upd (upd (upd (upd (upd (upd H3 a0 (.lst [.int 1])) a1 (.lst [.int 1])) a2 (.lst [.int one])) a3 (.lst [.int one])) a4 (.lst [.int one])) a5 (.lst [.int one])) a6 (.lst [.int one, .int other])) L (.lst [.ref a0, .ref a1, .ref a2, .ref a3, .ref a4, .ref a5, .ref a6])) x = some (.lst (wantOf i one other)) := by
      rcases i with _ | _ | _ | _ | _ | _ | _ | i
      · exact ⟨_, rfl, b1 _ _ upd_same⟩
      · exact ⟨_, rfl, b2 _ _ upd_same⟩
      · exact ⟨_, rfl, b3 _ _ upd_same⟩
      · exact ⟨_, rfl, b4 _ _ upd_same⟩
      · exact ⟨_, rfl, b5 _ _ upd_same⟩
      · exact ⟨_, rfl, b6 _ _ upd_same⟩
      · exact ⟨_, rfl, eL _ _ upd_same⟩
      · omega
    obtain ⟨x, hx, hxl⟩ := key
    refine ⟨_, rfl, L, _, _, _, rfl, rfl, SqL.of upd_same, atI_nat hx, pf, x, _, _, rfl, rfl, pf', SqL.of hxl, g, g, ?_⟩
    rw [if_neg Bool.false_ne_true, eqTs_self g]
    exact q _ fin
end
end K18

set_option Elab.async false
set_option linter.all false
set_option maxRecDepth 100000
set_option maxHeartbeats 40000000
namespace K18
open PySem L2
section
variable {P : Program} {w : World} {K : PySem.W.Frag} {mg : Str → Option Value} {base : Heap}
theorem scLaw : FnScope ["_law_script", "_law_k", "_law_one", "_law_other", "_law_way"] ["_law_script"] (defScope sLaw) := ⟨rfl, rfl, rfl, by decide +kernel, rfl, by decide +kernel, by decide +kernel⟩
theorem ok_Law {f : Addr} {fd : FuncData} (F : Fun K "law" "law" sLaw f fd) (T : Txt mg) (DCell : Df P w K mg base "_law_cell" ["_law_script", "_law_k"] 1 (spCell K)) (DRight : Df P w K mg base "_law_right" ["_law_way", "_law_one", "_law_other"] 5 spRight18) : FnOk P w K mg base CX0 6 f fd ["_law_script"] (spLaw K) := by
  obtain ⟨fCell, dCell, kCell, bCell, mCell, GCell⟩ := DCell.ex
  obtain ⟨fRight, dRight, kRight, bRight, mRight, GRight⟩ := DRight.ex
  refine F.ok scLaw (fun vs H Q E h => ?_) (fun cdv A outer s H vs Q E hr h => ?_)
  · obtain ⟨a, ns, rfl, hS, hlen, q⟩ := h
    rfl
  · obtain ⟨a, ns, rfl, hS, hlen, q⟩ := h
    have nd := scLaw.nd
    have hu := hu_of hr
    have hrCell : Room 1 _ := hr.mono (by first | decide | omega)
    have hrRight : Room 5 _ := hr.mono (by first | decide | omega)
    refine ⟨_, (pss_cons (ps_for PassesOwn.never rfl (pi_range1 rfl T.range (pa_cons (pe_callB (call_max2 rfl) rfl T.max b_max (pa_cons pe_int (pa_cons (pe_callB (call_min2 rfl) rfl T.min b_min (pa_cons pe_int (pa_cons (pe_callB call_len_seq rfl T.len PySem.boot_len (pa_cons (pv 0) pa_nil)) pa_nil))) pa_nil))) pa_nil)) (pg_name (i := 1) nd rfl (Or.inl rfl)) (pss_cons (ps_set (i := 2) nd rfl (Or.inl rfl) (pe_op op_sub (pe_op op_mod (pe_call GCell hrCell rfl mCell kCell bCell .nil pass0 (pa_cons (pv 0) (pa_cons (pv 1) pa_nil))) (pe_op op_pow pe_int pe_int)) (pe_op op_pow pe_int pe_int)))
      (pss_cons (ps_set (i := 3) nd rfl (Or.inl rfl) (pe_op op_mod (pe_call GCell hrCell rfl mCell kCell bCell .nil pass0 (pa_cons (pv 0) (pa_cons (pe_op op_add (pv 1) pe_int) pa_nil))) pe_int))
      (pss_one (ps_for PassesOwn.never rfl (pi_range1 rfl T.range (pa_cons pe_int pa_nil)) (pg_name (i := 4) nd rfl (Or.inl rfl)) (pss_one (ps_if (PW.pt (pw_or (pt_not (pt_val (pe_call GRight hrRight rfl mRight kRight bRight .nil pass0 (pa_cons (pv 4) (pa_cons (pv 2) (pa_cons (pv 3) pa_nil)))))) (pw_or1 (pt_not (pt_val (pe_call GRight hrRight rfl mRight kRight bRight .nil pass0 (pa_cons (pv 4) (pa_cons (pv 3) (pa_cons (pv 2) pa_nil))))))))) (pss_one (ps_ret pe_bl)) pss_nil)))))))
      (pss_one (ps_ret pe_bl))), ?_⟩
    obtain ⟨m, hm, lm⟩ : ∃ m : Nat, (if (if ((ns.map V.int).length : Int) < 8 then ((ns.map V.int).length : Int) else 8) > 1 then (if ((ns.map V.int).length : Int) < 8 then ((ns.map V.int).length : Int) else 8) else 1) = (m : Int) ∧ m ≤ 8 := ⟨_, (Int.toNat_of_nonneg (by split <;> split <;> omega)).symm, by split <;> split <;> omega⟩
    refine ⟨_, rfl, a, _, rfl, .inl hS, _, _, rfl, _, _, rfl, _, rfl, ?_⟩
    rw [hm]
    refine ⟨by omega, by omega, for_range (lo := 0) (n := m) (fun i σ Hi => ∃ o1 o2 o3 o4 : Option V, σ = [some (.ref a), o1, o2, o3, o4] ∧ Same H Hi) ⟨_, _, _, _, rfl, Same.refl _⟩ ?_ ?_⟩
    · rintro i σ Hi hi ⟨o1, o2, o3, o4, rfl, si⟩
      refine ⟨_, rfl, _, rfl, a, ns, i, (by show [V.ref a, V.int (0 + (i : Int))] = _; simp), si.seq hS, fun r0 _ => ?_⟩
      refine ⟨_, _, rfl, rfl, ⟨by decide, by decide, by decide⟩, _, _, rfl, rfl, (by show (0 : Int) < _; decide), _, _, rfl, rfl, ⟨by decide, by decide, by decide⟩, _, _, rfl, rfl, ?_⟩
      refine ⟨_, rfl, _, rfl, _, _, rfl, rfl, a, ns, i + 1, (by show [V.ref a, V.int (0 + (i : Int) + 1)] = _; simp), si.seq hS, fun r1 _ => ?_⟩
      refine ⟨_, _, rfl, rfl, (by show (0 : Int) < _; decide), ?_⟩
      obtain ⟨x1, hx1⟩ : ∃ x1 : Int, x1 = r0 % (10 : Int) ^ (30 : Int).toNat - (10 : Int) ^ (29 : Int).toNat := ⟨_, rfl⟩
      obtain ⟨x2, hx2⟩ : ∃ x2 : Int, x2 = r1 % (41 : Int) := ⟨_, rfl⟩
      rw [← hx1, ← hx2]
      refine ⟨7, rfl, by decide, by decide, for_range (lo := 0) (n := 7) (fun j σ Hj => ∃ o4 : Option V, σ = [some (.ref a), some (.int (0 + (i : Int))), some (.int x1), some (.int x2), o4] ∧ Same Hi Hj) ⟨_, rfl, Same.refl _⟩ ?_ ?_⟩
      · rintro j σ Hj hj ⟨o4, rfl, sj⟩
        have ej : (0 + (j : Int)) = (j : Int) := by omega
        rw [ej]
        refine ⟨_, rfl, _, rfl, _, rfl, j, x1, x2, rfl, hj, fun H2 s2 => ⟨_, rfl, iteF ⟨_, rfl, _, rfl, _, rfl, j, x2, x1, rfl, hj, fun H3 s3 => ⟨_, rfl, iteF ⟨_, rfl, (sj.trans s2).trans s3⟩⟩⟩⟩⟩
      · rintro σ Hj ⟨o4, rfl, sj⟩
        exact ⟨_, _, _, _, rfl, si.trans sj⟩
    · rintro σ Hi ⟨o1, o2, o3, o4, rfl, si⟩
      exact q Hi
end
end K18

set_option Elab.async false
set_option linter.all false
set_option maxRecDepth 100000
set_option maxHeartbeats 40000000
namespace K18
open PySem L2
theorem len_1 (us : List Value) (h : us.length = 1) : ∃ x0, us = [x0] := by
  rcases us with _ | ⟨x0, us⟩ <;> simp only [List.length_cons, List.length_nil] at h <;> try omega
  rcases us with _ | ⟨y, us⟩ <;> simp only [List.length_cons, List.length_nil] at h <;> try omega
  exact ⟨x0, rfl⟩
theorem len_2 (us : List Value) (h : us.length = 2) : ∃ x0 x1, us = [x0, x1] := by
  rcases us with _ | ⟨x0, us⟩ <;> simp only [List.length_cons, List.length_nil] at h <;> try omega
  rcases us with _ | ⟨x1, us⟩ <;> simp only [List.length_cons, List.length_nil] at h <;> try omega
  rcases us with _ | ⟨y, us⟩ <;> simp only [List.length_cons, List.length_nil] at h <;> try omega
  exact ⟨x0, x1, rfl⟩
theorem len_3 (us : List Value) (h : us.length = 3) : ∃ x0 x1 x2, us = [x0, x1, x2] := by
  rcases us with _ | ⟨x0, us⟩ <;> simp only [List.length_cons, List.length_nil] at h <;> try omega
  rcases us with _ | ⟨x1, us⟩ <;> simp only [List.length_cons, List.length_nil] at h <;> try omega
  rcases us with _ | ⟨x2, us⟩ <;> simp only [List.length_cons, List.length_nil] at h <;> try omega
  rcases us with _ | ⟨y, us⟩ <;> simp only [List.length_cons, List.length_nil] at h <;> try omega
  exact ⟨x0, x1, x2, rfl⟩
theorem all_mk {l : PySem.W.OpenLaw} {w : World} {K : PySem.W.Frag} {h : Heap} {mg : Str → Option Value} {fa f1 f2 f3 f4 f5 f6 : Addr} (X : K.In h) (G : h.Ns mainGlobals mg) (hfa : mg "law" = some (.ref fa))
    {od1 an1 od2 an2 od3 an3 od4 an4 od5 an5 od6 an6 : Option Addr} {sl1 sl2 sl3 sl4 sl5 sl6 : Array (Option Value)} {oc1 kV1 dc1 pm1 cd1 ct1 oc2 kV2 dc2 pm2 cd2 ct2 oc3 kV3 dc3 pm3 cd3 ct3 oc4 kV4 dc4 pm4 cd4 ct4 oc5 kV5 dc5 pm5 cd5 ct5 oc6 kV6 dc6 pm6 cd6 ct6 : Value}
    {cBoughError cNoPart cNoDeed cNoRow cNoFit cNoPatch cNoText cClash : Addr}
    {fiNoRow fiNoFit fiNoPatch fiNoText fiClash : Addr} {iodNoRow ianNoRow iodNoFit ianNoFit iodNoPatch ianNoPatch iodNoText ianNoText iodClash ianClash : Option Addr} {islNoRow islNoFit islNoPatch islNoText islClash : Array (Option Value)} {ikVNoRow idcNoRow ipmNoRow icdNoRow ictNoRow ikVNoFit idcNoFit ipmNoFit icdNoFit ictNoFit ikVNoPatch idcNoPatch ipmNoPatch icdNoPatch ictNoPatch ikVNoText idcNoText ipmNoText icdNoText ictNoText ikVClash idcClash ipmClash icdClash ictClash : Value}
    (a1 : PySem.W.nsIn K mainGlobals "_law_cell" = some (some (.ref f1))) (l1 : K.lookup f1 = some ⟨oc1, od1, .func (PySem.W.fnOf "_law_cell" "_law_cell" (defArgs sCell) (defBody sCell) (defScope sCell) .none kV1 dc1 pm1 an1 cd1 ct1), sl1⟩) (c1 : PySem.W.codeIn K cd1 "_law_cell" = true) (k1 : PySem.W.keepIn K (.ref f1) = true)
    (a2 : PySem.W.nsIn K mainGlobals "_law_kinds" = some (some (.ref f2))) (l2 : K.lookup f2 = some ⟨oc2, od2, .func (PySem.W.fnOf "_law_kinds" "_law_kinds" (defArgs sKinds) (defBody sKinds) (defScope sKinds) .none kV2 dc2 pm2 an2 cd2 ct2), sl2⟩) (c2 : PySem.W.codeIn K cd2 "_law_kinds" = true) (k2 : PySem.W.keepIn K (.ref f2) = true)
    (a3 : PySem.W.nsIn K mainGlobals "_law_raised" = some (some (.ref f3))) (l3 : K.lookup f3 = some ⟨oc3, od3, .func (PySem.W.fnOf "_law_raised" "_law_raised" (defArgs sRaised) (defBody sRaised) (defScope sRaised) .none kV3 dc3 pm3 an3 cd3 ct3), sl3⟩) (c3 : PySem.W.codeIn K cd3 "_law_raised" = true) (k3 : PySem.W.keepIn K (.ref f3) = true)
    (a4 : PySem.W.nsIn K mainGlobals "_law_fields" = some (some (.ref f4))) (l4 : K.lookup f4 = some ⟨oc4, od4, .func (PySem.W.fnOf "_law_fields" "_law_fields" (defArgs sFields) (defBody sFields) (defScope sFields) .none kV4 dc4 pm4 an4 cd4 ct4), sl4⟩) (c4 : PySem.W.codeIn K cd4 "_law_fields" = true) (k4 : PySem.W.keepIn K (.ref f4) = true)
    (a5 : PySem.W.nsIn K mainGlobals "_law_right" = some (some (.ref f5))) (l5 : K.lookup f5 = some ⟨oc5, od5, .func (PySem.W.fnOf "_law_right" "_law_right" (defArgs sRight) (defBody sRight) (defScope sRight) .none kV5 dc5 pm5 an5 cd5 ct5), sl5⟩) (c5 : PySem.W.codeIn K cd5 "_law_right" = true) (k5 : PySem.W.keepIn K (.ref f5) = true)
    (a6 : PySem.W.nsIn K mainGlobals "law" = some (some (.ref f6))) (l6 : K.lookup f6 = some ⟨oc6, od6, .func (PySem.W.fnOf "law" "law" (defArgs sLaw) (defBody sLaw) (defScope sLaw) .none kV6 dc6 pm6 an6 cd6 ct6), sl6⟩) (c6 : PySem.W.codeIn K cd6 "law" = true) (k6 : PySem.W.keepIn K (.ref f6) = true)
    (z1 : PySem.W.nsIn K mainGlobals "isinstance" = some none)
    (z2 : PySem.W.nsIn K mainGlobals "int" = some none)
    (z3 : PySem.W.nsIn K mainGlobals "bool" = some none)
    (z4 : PySem.W.nsIn K mainGlobals "str" = some none)
    (z5 : PySem.W.nsIn K mainGlobals "list" = some none)
    (z6 : PySem.W.nsIn K mainGlobals "dict" = some none)
    (z7 : PySem.W.nsIn K mainGlobals "tuple" = some none)
    (z8 : PySem.W.nsIn K mainGlobals "len" = some none)
    (z9 : PySem.W.nsIn K mainGlobals "range" = some none)
    (z10 : PySem.W.nsIn K mainGlobals "max" = some none)
    (z11 : PySem.W.nsIn K mainGlobals "min" = some none)
    (z12 : PySem.W.nsIn K mainGlobals "sorted" = some none)
    (z13 : PySem.W.nsIn K mainGlobals "all" = some none)
    (z14 : PySem.W.nsIn K mainGlobals "any" = some none)
    (z15 : PySem.W.nsIn K mainGlobals "reversed" = some none)
    (z16 : PySem.W.nsIn K mainGlobals "ValueError" = some none)
    (z17 : PySem.W.nsIn K mainGlobals "sum" = some none)
    (xaBoughError : PySem.W.nsIn K mainGlobals "BoughError" = some (some (.ref cBoughError)))
    (xaNoPart : PySem.W.nsIn K mainGlobals "NoPart" = some (some (.ref cNoPart)))
    (xaNoDeed : PySem.W.nsIn K mainGlobals "NoDeed" = some (some (.ref cNoDeed)))
    (xaNoRow : PySem.W.nsIn K mainGlobals "NoRow" = some (some (.ref cNoRow)))
    (xaNoFit : PySem.W.nsIn K mainGlobals "NoFit" = some (some (.ref cNoFit)))
    (xaNoPatch : PySem.W.nsIn K mainGlobals "NoPatch" = some (some (.ref cNoPatch)))
    (xaNoText : PySem.W.nsIn K mainGlobals "NoText" = some (some (.ref cNoText)))
    (xaClash : PySem.W.nsIn K mainGlobals "Clash" = some (some (.ref cClash)))
    (iaNoRow : PySem.W.findIn K (.ref cNoRow) "__init__" = some (some (.ref fiNoRow))) (ilNoRow : K.lookup fiNoRow = some ⟨.type "function", iodNoRow, .func (PySem.W.fnOf "__init__" "NoRow.__init__" (defArgs sNoRowInit) (defBody sNoRowInit) (defScope sNoRowInit) .none ikVNoRow idcNoRow ipmNoRow ianNoRow icdNoRow ictNoRow), islNoRow⟩) (icNoRow : PySem.W.codeIn K icdNoRow "NoRow.__init__" = true) (ikNoRow : PySem.W.keepIn K (.ref fiNoRow) = true)
    (iaNoFit : PySem.W.findIn K (.ref cNoFit) "__init__" = some (some (.ref fiNoFit))) (ilNoFit : K.lookup fiNoFit = some ⟨.type "function", iodNoFit, .func (PySem.W.fnOf "__init__" "NoFit.__init__" (defArgs sNoFitInit) (defBody sNoFitInit) (defScope sNoFitInit) .none ikVNoFit idcNoFit ipmNoFit ianNoFit icdNoFit ictNoFit), islNoFit⟩) (icNoFit : PySem.W.codeIn K icdNoFit "NoFit.__init__" = true) (ikNoFit : PySem.W.keepIn K (.ref fiNoFit) = true)
    (iaNoPatch : PySem.W.findIn K (.ref cNoPatch) "__init__" = some (some (.ref fiNoPatch))) (ilNoPatch : K.lookup fiNoPatch = some ⟨.type "function", iodNoPatch, .func (PySem.W.fnOf "__init__" "NoPatch.__init__" (defArgs sNoPatchInit) (defBody sNoPatchInit) (defScope sNoPatchInit) .none ikVNoPatch idcNoPatch ipmNoPatch ianNoPatch icdNoPatch ictNoPatch), islNoPatch⟩) (icNoPatch : PySem.W.codeIn K icdNoPatch "NoPatch.__init__" = true) (ikNoPatch : PySem.W.keepIn K (.ref fiNoPatch) = true)
    (iaNoText : PySem.W.findIn K (.ref cNoText) "__init__" = some (some (.ref fiNoText))) (ilNoText : K.lookup fiNoText = some ⟨.type "function", iodNoText, .func (PySem.W.fnOf "__init__" "NoText.__init__" (defArgs sNoTextInit) (defBody sNoTextInit) (defScope sNoTextInit) .none ikVNoText idcNoText ipmNoText ianNoText icdNoText ictNoText), islNoText⟩) (icNoText : PySem.W.codeIn K icdNoText "NoText.__init__" = true) (ikNoText : PySem.W.keepIn K (.ref fiNoText) = true)
    (iaClash : PySem.W.findIn K (.ref cClash) "__init__" = some (some (.ref fiClash))) (ilClash : K.lookup fiClash = some ⟨.type "function", iodClash, .func (PySem.W.fnOf "__init__" "Clash.__init__" (defArgs sClashInit) (defBody sClashInit) (defScope sClashInit) .none ikVClash idcClash ipmClash ianClash icdClash ictClash), islClash⟩) (icClash : PySem.W.codeIn K icdClash "Clash.__init__" = true) (ikClash : PySem.W.keepIn K (.ref fiClash) = true)
    (kk : kkB K (fun i => [cNoPart, cNoDeed, cNoRow, cNoFit, cNoPatch, cNoText, cClash].getD i 0) cBoughError (fun i => [0, 0, fiNoRow, fiNoFit, fiNoPatch, fiNoText, fiClash].getD i 0) = true)
    : ∃ fd : FuncData, (∀ (s : Shared) (v : Value), BindsTo s fd ⟨[v], []⟩ [("_law_script", v)]) ∧ ∀ base : Heap, K.In base → base.Ns mainGlobals mg → FnOk l.prog w K mg base CX0 6 fa fd ["_law_script"] (spLaw K) := by
  have e := hfa.symm.trans (PySem.W.mg_of X G a6)
  cases e
  have T : Txt mg := ⟨PySem.W.mg_none_of X G z1, PySem.W.mg_none_of X G z2, PySem.W.mg_none_of X G z3, PySem.W.mg_none_of X G z4, PySem.W.mg_none_of X G z5, PySem.W.mg_none_of X G z6, PySem.W.mg_none_of X G z7, PySem.W.mg_none_of X G z8, PySem.W.mg_none_of X G z9, PySem.W.mg_none_of X G z10, PySem.W.mg_none_of X G z11, PySem.W.mg_none_of X G z12, PySem.W.mg_none_of X G z13, PySem.W.mg_none_of X G z14, PySem.W.mg_none_of X G z15, PySem.W.mg_none_of X G z16, PySem.W.mg_none_of X G z17⟩
  have F1 := fun_mk (st := sCell) l1 c1 k1
  have b1 := F1.binds (ps := ["_law_script", "_law_k"]) fun _ _ _ _ _ _ us hl => by obtain ⟨x0, x1, rfl⟩ := len_2 us hl; rfl
  have m1 := PySem.W.mg_of X G a1
  have F2 := fun_mk (st := sKinds) l2 c2 k2
  have b2 := F2.binds (ps := ["_law_e"]) fun _ _ _ _ _ _ us hl => by obtain ⟨x0, rfl⟩ := len_1 us hl; rfl
  have m2 := PySem.W.mg_of X G a2
  have F3 := fun_mk (st := sRaised) l3 c3 k3
  have b3 := F3.binds (ps := ["_law_way", "_law_one", "_law_other"]) fun _ _ _ _ _ _ us hl => by obtain ⟨x0, x1, x2, rfl⟩ := len_3 us hl; rfl
  have m3 := PySem.W.mg_of X G a3
  have F4 := fun_mk (st := sFields) l4 c4 k4
  have b4 := F4.binds (ps := ["_law_way", "_law_one", "_law_other"]) fun _ _ _ _ _ _ us hl => by obtain ⟨x0, x1, x2, rfl⟩ := len_3 us hl; rfl
  have m4 := PySem.W.mg_of X G a4
  have F5 := fun_mk (st := sRight) l5 c5 k5
  have b5 := F5.binds (ps := ["_law_way", "_law_one", "_law_other"]) fun _ _ _ _ _ _ us hl => by obtain ⟨x0, x1, x2, rfl⟩ := len_3 us hl; rfl
  have m5 := PySem.W.mg_of X G a5
  have F6 := fun_mk (st := sLaw) l6 c6 k6
  have mXBoughError := PySem.W.mg_of X G xaBoughError
  have mXNoPart := PySem.W.mg_of X G xaNoPart
  have mXNoDeed := PySem.W.mg_of X G xaNoDeed
  have mXNoRow := PySem.W.mg_of X G xaNoRow
  have mXNoFit := PySem.W.mg_of X G xaNoFit
  have mXNoPatch := PySem.W.mg_of X G xaNoPatch
  have mXNoText := PySem.W.mg_of X G xaNoText
  have mXClash := PySem.W.mg_of X G xaClash
  have FINoRow := fun_mk (st := sNoRowInit) ilNoRow icNoRow ikNoRow
  have bINoRow := FINoRow.binds (ps := ["self", "at"]) fun _ _ _ _ _ _ us hl => by obtain ⟨x0, x1, rfl⟩ := len_2 us hl; rfl
  have FINoFit := fun_mk (st := sNoFitInit) ilNoFit icNoFit ikNoFit
  have bINoFit := FINoFit.binds (ps := ["self", "at"]) fun _ _ _ _ _ _ us hl => by obtain ⟨x0, x1, rfl⟩ := len_2 us hl; rfl
  have FINoPatch := fun_mk (st := sNoPatchInit) ilNoPatch icNoPatch ikNoPatch
  have bINoPatch := FINoPatch.binds (ps := ["self", "at"]) fun _ _ _ _ _ _ us hl => by obtain ⟨x0, x1, rfl⟩ := len_2 us hl; rfl
  have FINoText := fun_mk (st := sNoTextInit) ilNoText icNoText ikNoText
  have bINoText := FINoText.binds (ps := ["self", "at"]) fun _ _ _ _ _ _ us hl => by obtain ⟨x0, x1, rfl⟩ := len_2 us hl; rfl
  have FIClash := fun_mk (st := sClashInit) ilClash icClash ikClash
  have bIClash := FIClash.binds (ps := ["self", "at", "other"]) fun _ _ _ _ _ _ us hl => by obtain ⟨x0, x1, x2, rfl⟩ := len_3 us hl; rfl
  have kn := Kn.of kk
  have N := (⟨mXNoPart, mXNoDeed, mXNoRow, mXNoFit, mXNoPatch, mXNoText, mXClash, mXBoughError⟩ : Nm mg (fun i => [cNoPart, cNoDeed, cNoRow, cNoFit, cNoPatch, cNoText, cClash].getD i 0) cBoughError)
  refine ⟨PySem.W.fnOf "law" "law" (defArgs sLaw) (defBody sLaw) (defScope sLaw) .none kV6 dc6 pm6 an6 cd6 ct6, fun s v => .of_eq rfl, fun base _ _ => ?_⟩
  have I2 : In1 l.prog w K mg base ((fun i => [0, 0, fiNoRow, fiNoFit, fiNoPatch, fiNoText, fiClash].getD i 0) 2) ["self", "at"] (spInit1 ((fun i => [cNoPart, cNoDeed, cNoRow, cNoFit, cNoPatch, cNoText, cClash].getD i 0) 2)) := ⟨_, ok_NoRowInit FINoRow (kn.sk 0 (by decide)), bINoRow, ⟨_, ilNoRow, rfl⟩⟩
  have I3 : In1 l.prog w K mg base ((fun i => [0, 0, fiNoRow, fiNoFit, fiNoPatch, fiNoText, fiClash].getD i 0) 3) ["self", "at"] (spInit1 ((fun i => [cNoPart, cNoDeed, cNoRow, cNoFit, cNoPatch, cNoText, cClash].getD i 0) 3)) := ⟨_, ok_NoFitInit FINoFit (kn.sk 1 (by decide)), bINoFit, ⟨_, ilNoFit, rfl⟩⟩
  have I4 : In1 l.prog w K mg base ((fun i => [0, 0, fiNoRow, fiNoFit, fiNoPatch, fiNoText, fiClash].getD i 0) 4) ["self", "at"] (spInit1 ((fun i => [cNoPart, cNoDeed, cNoRow, cNoFit, cNoPatch, cNoText, cClash].getD i 0) 4)) := ⟨_, ok_NoPatchInit FINoPatch (kn.sk 2 (by decide)), bINoPatch, ⟨_, ilNoPatch, rfl⟩⟩
  have I5 : In1 l.prog w K mg base ((fun i => [0, 0, fiNoRow, fiNoFit, fiNoPatch, fiNoText, fiClash].getD i 0) 5) ["self", "at"] (spInit1 ((fun i => [cNoPart, cNoDeed, cNoRow, cNoFit, cNoPatch, cNoText, cClash].getD i 0) 5)) := ⟨_, ok_NoTextInit FINoText (kn.sk 3 (by decide)), bINoText, ⟨_, ilNoText, rfl⟩⟩
  have I6 : In1 l.prog w K mg base ((fun i => [0, 0, fiNoRow, fiNoFit, fiNoPatch, fiNoText, fiClash].getD i 0) 6) ["self", "at", "other"] (spInit2 ((fun i => [cNoPart, cNoDeed, cNoRow, cNoFit, cNoPatch, cNoText, cClash].getD i 0) 6)) := ⟨_, ok_ClashInit FIClash (kn.sk 4 (by decide)) kn.sk6, bIClash, ⟨_, ilClash, rfl⟩⟩
  have DCell0 : Df l.prog w K mg base "_law_cell" ["_law_script", "_law_k"] 1 (spCell K) := Df.mk' F1 b1 m1 (ok_Cell F1 T)
  have DKinds1 : DfN l.prog w K mg base "_law_kinds" ["_law_e"] 1 (spKinds (fun i => [cNoPart, cNoDeed, cNoRow, cNoFit, cNoPatch, cNoText, cClash].getD i 0)) := DfN.mk' F2 b2 m2 (ok_Kinds F2 T N kn)
  have DRaised2 : DfD l.prog w K mg base "_law_raised" ["_law_way", "_law_one", "_law_other"] 3 (spRaised (fun i => [cNoPart, cNoDeed, cNoRow, cNoFit, cNoPatch, cNoText, cClash].getD i 0)) := DfD.mk' F3 b3 m3 (ok_Raised F3 T N kn I2 I3 I4 I5 I6)
  have DFields3 : Df l.prog w K mg base "_law_fields" ["_law_way", "_law_one", "_law_other"] 4 (spFields (fun i => [cNoPart, cNoDeed, cNoRow, cNoFit, cNoPatch, cNoText, cClash].getD i 0)) := Df.mk' F4 b4 m4 (ok_Fields F4 T DKinds1 DRaised2 N kn)
  have DRight1 : Df l.prog w K mg base "_law_right" ["_law_way", "_law_one", "_law_other"] 5 spRight18 := Df.mk' F5 b5 m5 (ok_Right F5 T DKinds1 DRaised2 DFields3 N kn)
  exact ok_Law F6 T DCell0 DRight1
theorem walk {l : PySem.W.OpenLaw} {q : Program} {loose : List Str} {XP : (Str → Option Value) → Heap → Prop} {YP : World → Heap → Prop} {d : DefRec} {K : Params → PySem.W.Frag} (hn : l.most = some 63) (hdf : d.params.defaults = [])
    (hY : ∀ (w : World) (h : Heap), YP w h → (K w.params).In h)
    (F : ∀ (w : World) (mg : Str → Option Value) (fa : Addr) (h : Heap), (K w.params).In h → h.Ns mainGlobals mg → mg d.name = some (.ref fa) →
      ∃ fd : FuncData, (∀ (s : Shared) (u : Value), BindsTo s fd ⟨[u], []⟩ [("_law_script", u)]) ∧ ∀ base : Heap, (K w.params).In base → base.Ns mainGlobals mg → FnOk l.prog w (K w.params) mg base CX0 6 fa fd ["_law_script"] (spLaw (K w.params))) :
    PySem.W.WalkO q loose XP YP l.row.toRowW d [] (fun f vs => PySem.call f vs) :=
  L2.walk_of (n := 63) (k := 6) (x := "_law_script") (CX := fun _ => CX0) (sp := fun w => spLaw (K w.params)) hn (by decide) hdf ⟨rfl, by decide, by decide, rfl⟩ hY F (fun _ _ a ns hl _ hS => ⟨a, ns, rfl, hS, hl, fun _ => rfl⟩) fun _ _ _ _ _ z => z
theorem walkZ {l : PySem.W.OpenLaw} {q : Program} {loose : List Str} {XP : (Str → Option Value) → Heap → Prop} {d : DefRec} {K : Params → PySem.W.Frag} {as : List Addr} {n t : Nat} (e : ∀ P : Params, as = List.map (fun x => x.fst) (K P)) (hn : l.most = some 63) (hdf : d.params.defaults = [])
    (F : ∀ (w : World) (mg : Str → Option Value) (fa : Addr) (h : Heap), (K w.params).In h → h.Ns mainGlobals mg → mg d.name = some (.ref fa) →
      ∃ fd : FuncData, (∀ (s : Shared) (u : Value), BindsTo s fd ⟨[u], []⟩ [("_law_script", u)]) ∧ ∀ base : Heap, (K w.params).In base → base.Ns mainGlobals mg → FnOk l.prog w (K w.params) mg base CX0 6 fa fd ["_law_script"] (spLaw (K w.params))) :
    PySem.W.WalkX q loose XP (PySem.W.X.obsZ as) (PySem.W.X.valZ K n t) l.row.toRowW d [] (fun f vs => PySem.call f vs) :=
  fun w s₀ s₁ mg mb G y a o pm cd doc dV kV h1 h2 h3 h4 h5 h6 args vals as' L p1 p2 p3 p4 p5 =>
    walk (YP := fun w h => (K w.params).In h) hn hdf (fun _ _ z => z) F w s₀ s₁ mg mb G ((show (K w.params).In s₀.heap from (PySem.W.X.z_facts e y).2.1).keeps L.keeps) a o pm cd doc dV kV h1 h2 h3 h4 h5 h6 args vals as' p1 p2 p3 p4 p5
end K18
open PySem PySem.W PyProof.Rows
set_option maxRecDepth 100000 in
set_option maxHeartbeats 0 in
theorem PySem.Challenge.cw_patchbough_k18_refusals_apart_holds : PySem.Challenge.rw_patchbough_k18_refusals_apart.Holds := by
  w_on; o_law; z_head; (case hw => w_witness2)
  k_fill
  refine K18.walkZ (l := PySem.Challenge.rw_patchbough_k18_refusals_apart) (fun _ => rfl) rfl rfl ?F
  case F =>
    intro w mg fa h KX G hmg
    refine' K18.all_mk KX G hmg ?a1 ?l1 ?c1 ?k1 ?a2 ?l2 ?c2 ?k2 ?a3 ?l3 ?c3 ?k3 ?a4 ?l4 ?c4 ?k4 ?a5 ?l5 ?c5 ?k5 ?a6 ?l6 ?c6 ?k6 ?z1 ?z2 ?z3 ?z4 ?z5 ?z6 ?z7 ?z8 ?z9 ?z10 ?z11 ?z12 ?z13 ?z14 ?z15 ?z16 ?z17 ?xaBoughError ?xaNoPart ?xaNoDeed ?xaNoRow ?xaNoFit ?xaNoPatch ?xaNoText ?xaClash ?iaNoRow ?ilNoRow ?icNoRow ?ikNoRow ?iaNoFit ?ilNoFit ?icNoFit ?ikNoFit ?iaNoPatch ?ilNoPatch ?icNoPatch ?ikNoPatch ?iaNoText ?ilNoText ?icNoText ?ikNoText ?iaClash ?ilClash ?icClash ?ikClash ?kk
    (case a1 => k_is)
    (case l1 => k_is)
    (case c1 => k_is)
    (case k1 => k_is)
    (case a2 => k_is)
    (case l2 => k_is)
    (case c2 => k_is)
    (case k2 => k_is)
    (case a3 => k_is)
    (case l3 => k_is)
    (case c3 => k_is)
    (case k3 => k_is)
    (case a4 => k_is)
    (case l4 => k_is)
    (case c4 => k_is)
    (case k4 => k_is)
    (case a5 => k_is)
    (case l5 => k_is)
    (case c5 => k_is)
    (case k5 => k_is)
    (case a6 => k_is)
    (case l6 => k_is)
    (case c6 => k_is)
    (case k6 => k_is)
    (case z1 => k_is)
    (case z2 => k_is)
    (case z3 => k_is)
    (case z4 => k_is)
    (case z5 => k_is)
    (case z6 => k_is)
    (case z7 => k_is)
    (case z8 => k_is)
    (case z9 => k_is)
    (case z10 => k_is)
    (case z11 => k_is)
    (case z12 => k_is)
    (case z13 => k_is)
    (case z14 => k_is)
    (case z15 => k_is)
    (case z16 => k_is)
    (case z17 => k_is)
    (case xaBoughError => k_is)
    (case xaNoPart => k_is)
    (case xaNoDeed => k_is)
    (case xaNoRow => k_is)
    (case xaNoFit => k_is)
    (case xaNoPatch => k_is)
    (case xaNoText => k_is)
    (case xaClash => k_is)
    (case iaNoRow => k_is)
    (case ilNoRow => k_is)
    (case icNoRow => k_is)
    (case ikNoRow => k_is)
    (case iaNoFit => k_is)
    (case ilNoFit => k_is)
    (case icNoFit => k_is)
    (case ikNoFit => k_is)
    (case iaNoPatch => k_is)
    (case ilNoPatch => k_is)
    (case icNoPatch => k_is)
    (case ikNoPatch => k_is)
    (case iaNoText => k_is)
    (case ilNoText => k_is)
    (case icNoText => k_is)
    (case ikNoText => k_is)
    (case iaClash => k_is)
    (case ilClash => k_is)
    (case icClash => k_is)
    (case ikClash => k_is)
    (case kk => kernel_rfl)
#print axioms PySem.Challenge.cw_patchbough_k18_refusals_apart_holds

