import PyProof.Rows.All
import Wide.All
import OpenK.AllK
import Wide.FinOn
import Lean
import PyProof.EqAt
import PyProof.EqKinds
import PyProof.TupleCall
import PyProof.ReprRoads
import PyProof.ReprBulk
import Wide.Seal
import PyProof.ExcInit
import PyProof.NsDelKeeps
import PyProof.ZipIter
import KE.KItemsList
import PyProof.P3Eq
import KE.KEqDict
import PyProof.EnumMake
import PyProof.Draws
import PyProof.Rows.StrNews
import PyProof.Rows.StrNews2
import KE.KIntText
import PyProof.StrLawsTight
import PyProof.StrLawsFirst
import PyProof.Rows.Range3
import PySem.Challenge.RW_patchbough_k92_no_texts
set_option Elab.async false
set_option linter.all false
set_option maxRecDepth 100000
namespace L2
open PySem PySem.Spec PyProof.Rows

abbrev Key := Sum Int Str
def keyIs : Key → Value → Bool
  | .inl k, v => Value.isInt k v
  | .inr x, v => Value.isStrOf x v
def keyH (w : World) : Key → Int
  | .inl k => hashInt k
  | .inr x => hashStr w x
theorem keyIs_shape : ∀ {k : Key} {v : Value}, keyIs k v = true → (∃ i t, k = Sum.inl i ∧ v = Value.int i t) ∨ (∃ x t, k = Sum.inr x ∧ v = Value.str x t)
  | .inl i, v, h => by
    obtain ⟨t, e⟩ := Value.isInt_shape (k := i) (v := v) h
    exact .inl ⟨i, t, rfl, e⟩
  | .inr x, v, h => by
    obtain ⟨t, e⟩ := Value.isStrOf_shape (x := x) (v := v) h
    exact .inr ⟨x, t, rfl, e⟩
theorem keyIs_int (i : Int) (t : Tok) : keyIs (.inl i) (.int i t) = true := by simp [keyIs, Value.isInt]
theorem keyIs_str (x : Str) (t : Tok) : keyIs (.inr x) (.str x t) = true := by simp [keyIs, Value.isStrOf]
theorem key_ll (a b : Int) : decide ((Sum.inl a : Key) = Sum.inl b) = (a == b) := by
  by_cases e : a = b
  · subst e; simp
  · have h : ¬ (Sum.inl a : Key) = Sum.inl b := fun q => e (Sum.inl.inj q)
    rw [decide_eq_false h]
    exact (beq_eq_false_iff_ne.mpr e).symm
theorem key_rr (a b : Str) : decide ((Sum.inr a : Key) = Sum.inr b) = decide (a = b) := by
  by_cases e : a = b
  · subst e; simp
  · have h : ¬ (Sum.inr a : Key) = Sum.inr b := fun q => e (Sum.inr.inj q)
    rw [decide_eq_false h, decide_eq_false e]
theorem key_lr (a : Int) (b : Str) : decide ((Sum.inl a : Key) = Sum.inr b) = false := decide_eq_false (fun q => nomatch q)
theorem key_rl (a : Str) (b : Int) : decide ((Sum.inr a : Key) = Sum.inl b) = false := decide_eq_false (fun q => nomatch q)

def mixKind (prog : Program) (w : World) : PySem.KeyKind prog w Key where
  is := keyIs
  hash := keyH w
  inj := fun v a b ha hb => by
    rcases keyIs_shape ha with ⟨i, t, rfl, rfl⟩ | ⟨x, t, rfl, rfl⟩
    · rcases keyIs_shape hb with ⟨j, u, rfl, e⟩ | ⟨y, u, rfl, e⟩
      · injection e with e1 _; rw [e1]
      · exact nomatch e
    · rcases keyIs_shape hb with ⟨j, u, rfl, e⟩ | ⟨y, u, rfl, e⟩
      · exact nomatch e
      · injection e with e1 _; rw [e1]
  byValue := fun k v h => by
    rcases keyIs_shape h with ⟨i, t, rfl, rfl⟩ | ⟨x, t, rfl, rfl⟩ <;> rfl
  pyHash := fun hv h => by
    rcases keyIs_shape hv with ⟨i, t, rfl, rfl⟩ | ⟨x, t, rfl, rfl⟩
    · exact wpAny_pyHash_int h
    · exact wpAny_pyHash_str h
  eqBool := fun hu hv h => by
    rcases keyIs_shape hu with ⟨i, t, rfl, rfl⟩ | ⟨x, t, rfl, rfl⟩
    · rcases keyIs_shape hv with ⟨j, u, rfl, rfl⟩ | ⟨y, u, rfl, rfl⟩
      · rw [key_ll] at h; exact wpAny_eqBool_int h
      · rw [key_lr] at h; exact SeqAt.EqAt.int_str i t y u _ _ _ _ h
    · rcases keyIs_shape hv with ⟨j, u, rfl, rfl⟩ | ⟨y, u, rfl, rfl⟩
      · rw [key_rl] at h; exact SeqAt.EqAt.str_int x t j u _ _ _ _ h
      · rw [key_rr] at h; exact wpAny_eqBool_str h
  «strs» := fun k x t v h => by
    rcases keyIs_shape h with ⟨i, u, rfl, e⟩ | ⟨y, u, rfl, e⟩
    · exact nomatch e
    · injection e with e1 _
      subst e1
      cases v <;> rfl

theorem mixKind_int (prog : Program) (w : World) (i : Int) (t : Tok) : (mixKind prog w).is (.inl i) (.int i t) = true := keyIs_int i t
theorem mixKind_str (prog : Program) (w : World) (x : Str) (t : Tok) : (mixKind prog w).is (.inr x) (.str x t) = true := keyIs_str x t
end L2

namespace L2
open PySem PySem.Spec PyProof.Rows

inductive V where
  | non | bl (b : Bool) | int (i : Int) | str (x : Str) | byt (b : Array UInt8) | flt (b : UInt64) | ref (a : Addr) | ty (n : String)
  deriving DecidableEq

def RelV : V → Value → Prop
  | .non, u => u = Value.none
  | .bl b, u => u = Value.bool b
  | .int i, u => ∃ t, u = Value.int i t
  | .str x, u => ∃ t, u = Value.str x t
  | .byt b, u => ∃ t, u = Value.bytes b t
  | .flt b, u => ∃ t, u = Value.float b t
  | .ref a, u => u = Value.ref a
  | .ty n, u => u = Value.type n

abbrev Vals : List V → List Value → Prop := Paired RelV
theorem Vals.length {xs : List V} {us : List Value} (r : Vals xs us) : xs.length = us.length := Paired.length r
theorem Vals.inv {x : V} {xs : List V} {us : List Value} (r : Vals (x :: xs) us) : ∃ u ur, us = u :: ur ∧ RelV x u ∧ Vals xs ur := by
  cases r with
  | cons a b => exact ⟨_, _, rfl, a, b⟩
theorem Vals.get {xs : List V} {us : List Value} {i : Nat} {x : V} (r : Vals xs us) (e : xs[i]? = some x) : ∃ u, us[i]? = some u ∧ RelV x u := by
  induction r generalizing i with
  | nil => rw [List.getElem?_nil] at e; exact nomatch e
  | cons a b ih =>
    cases i with
    | zero => exact ⟨_, rfl, Option.some.inj e ▸ a⟩
    | succ j => exact ih (i := j) e
theorem Vals.set {x : V} {u : Value} (r : RelV x u) : ∀ {xs : List V} {us : List Value} (i : Nat), Vals xs us → Vals (xs.set i x) (us.set i u)
  | _, _, _, .nil => .nil
  | _, _, 0, .cons _ t => .cons r t
  | _, _, i + 1, .cons q t => .cons q (Vals.set r i t)
theorem Vals.append {xs ys : List V} {us ws : List Value} (r : Vals xs us) (s : Vals ys ws) : Vals (xs ++ ys) (us ++ ws) := by
  induction r with
  | nil => exact s
  | cons a _ ih => exact .cons a ih
theorem Vals.take : ∀ {xs : List V} {us : List Value} (n : Nat), Vals xs us → Vals (xs.take n) (us.take n)
  | _, _, 0, _ => .nil
  | _, _, _ + 1, .nil => .nil
  | _, _, n + 1, .cons r t => .cons r (Vals.take n t)
theorem Vals.drop : ∀ {xs : List V} {us : List Value} (n : Nat), Vals xs us → Vals (xs.drop n) (us.drop n)
  | _, _, 0, r => r
  | _, _, _ + 1, .nil => .nil
  | _, _, n + 1, .cons _ t => Vals.drop n t
def RelO : Option V → Option Value → Prop
  | some v, some u => RelV v u
  | none, none => True
  | _, _ => False
def KV {κ : Type} : List (κ × V) → List (κ × Value) → Prop := Paired fun (p : κ × V) (q : κ × Value) => p.1 = q.1 ∧ RelV p.2 q.2

def kV : Key → V
  | .inl i => .int i
  | .inr x => .str x

inductive HO where
  | lst (xs : List V)
  | tup (xs : List V)
  | dK (kvs : List (Key × V)) | dT (kvs : List (List Key × V))
  | set (S : Int → Bool) (n : Nat)
  | ins (C dx : Addr) (fs : List (Str × V))
  | own (x : Addr)
  | xd (fs : List (Str × V))
  | met (f x : Addr)
  | rng (lo hi : Int)
  | frz (o : Obj) (u : HO)
  | tbl (ps : Array Value)
  | ext (φ : Heap → Prop)

abbrev Hp := Addr → Option HO
def upd (H : Hp) (a : Addr) (o : HO) : Hp := fun b => if b = a then some o else H b
def New (H : Hp) (o : HO) (Q : V → Hp → Prop) : Prop := ∀ p, H p = none → Q (.ref p) (upd H p o)
theorem upd_same {H : Hp} {a : Addr} {o : HO} : upd H a o a = some o := by unfold upd; rw [if_pos rfl]
theorem upd_ne {H : Hp} {a b : Addr} {o : HO} (h : b ≠ a) : upd H a o b = H b := by unfold upd; rw [if_neg h]
theorem upd_upd {H : Hp} {a : Addr} {o u : HO} : upd (upd H a o) a u = upd H a u := by
  funext b; unfold upd; split <;> rfl
theorem ne_of {H : Hp} {a b : Addr} {o u : HO} (h : H a = some o) (h' : H b = some u) (d : o ≠ u) : a ≠ b := by
  intro e; subst e; rw [h] at h'; exact d (Option.some.inj h')
theorem ne_of_none {H : Hp} {a b : Addr} {o : HO} (h : H a = some o) (h' : H b = none) : a ≠ b := by
  intro e; subst e; rw [h] at h'; cases h'

section
variable (P : Program) (w : World)
def ObjOk (H : Hp) (h : Heap) (a : Addr) : HO → Prop
  | .lst xs => xs.length ≤ sizeLine ∧ ∃ (its : List Value) (n : Nat), Vals xs its ∧ h.get? a = some { cls := .type "list", data := .seq its.toArray n }
  | .tup xs => xs.length ≤ sizeLine ∧ ∃ its : List Value, Vals xs its ∧ IsTup h a its.toArray
  | .dK kvs => kvs.length ≤ sizeLine ∧ (a == sysModules) = false ∧ ∃ vs, KV kvs vs ∧ h.DictOf (mixKind P w) a vs
  | .dT kvs => kvs.length ≤ sizeLine ∧ (a == sysModules) = false ∧ ∃ xs : List (List Key × Addr × Value),
      Paired (fun (p : List Key × V) (q : List Key × Addr × Value) => p.1 = q.1 ∧ H q.2.1 = some (.tup (p.1.map kV)) ∧ RelV p.2 q.2.2) kvs xs ∧
      ∃ o es ep, h.get? a = some o ∧ o.ExactDict ∧ o.data = .dict es ep ∧ es.toList = xs.map (entryOfKey (tupleKind (mixKind P w))) ∧ (xs.map (·.1)).Nodup
  | .set S n => h.SetOf (intKind P w) a S n
  | .ins C dx fs => H dx = some (.own a) ∧ fs.length ≤ 1000 ∧ dx ≠ a ∧ h.get? a = some (PySem.W.instObj C dx) ∧
      ∃ mA, h.Ns1 dx mA ∧ (∀ f, RelO (fs.lookup f) (mA f)) ∧ PySem.Within mA (fs.map (·.1))
  | .own _ => ∃ o, h.get? a = some o
  | .xd fs => ∃ mA, h.Ns1 a mA ∧ ∀ f, RelO (fs.lookup f) (mA f)
  | .rng lo hi => ∃ t u v, h.get? a = some { cls := .type "range", data := .fields #[.int lo t, .int hi u, .int 1 v] }
  | .frz o u => h.get? a = some o ∧ ObjOk H h a u
  | .tbl ps => h.get? a = some { cls := .none, data := .fields ps }
  | .met f x => h.get? a = some (PySem.W.methodObj (.ref f) (.ref x))
  | .ext φ => φ h ∧ (∃ o, h.get? a = some o) ∧ ∀ h1 h2 : Heap, φ h1 → (∀ o, h1.get? a = some o → h2.get? a = some o) → φ h2
def HOk (H : Hp) (h : Heap) : Prop := ∀ a o, H a = some o → ObjOk P w H h a o
end

section
variable {P : Program} {w : World} {H H' : Hp} {h h' : Heap} {a : Addr} {o : HO}
theorem ObjOk.lt (x : ObjOk P w H h a o) : a < h.objs.size := by
  cases o with
  | lst xs => obtain ⟨_, _, _, _, e⟩ := x; exact Heap.lt_size e
  | tup xs => obtain ⟨_, _, _, p⟩ := x; exact p.lt
  | dK kvs => obtain ⟨_, _, _, _, o, _, _, e, _⟩ := x; exact Heap.lt_size e
  | dT kvs => obtain ⟨_, _, _, _, o, _, _, e, _⟩ := x; exact Heap.lt_size e
  | set S n => obtain ⟨o, _, _, _, e, _⟩ := x; exact Heap.lt_size e
  | ins C dx fs => obtain ⟨_, _, _, e, _⟩ := x; exact Heap.lt_size e
  | own y => obtain ⟨_, e⟩ := x; exact Heap.lt_size e
  | xd fs => obtain ⟨_, ⟨_, _, _, e, _⟩, _⟩ := x; exact Heap.lt_size e
  | rng lo hi => obtain ⟨_, _, _, e⟩ := x; exact Heap.lt_size e
  | frz ob u => obtain ⟨e, _⟩ := x; exact Heap.lt_size e
  | tbl ps => exact Heap.lt_size (show h.get? a = some _ from x)
  | met f y => exact Heap.lt_size (show h.get? a = some _ from x)
  | ext φ => obtain ⟨_, ⟨_, e⟩, _⟩ := x; exact Heap.lt_size e
theorem Paired.mapP {α β : Type} {F G : α → β → Prop} {l₁ : List α} {l₂ : List β} (r : Paired F l₁ l₂) (f : ∀ a b, F a b → G a b) : Paired G l₁ l₂ := by
  induction r with
  | nil => exact .nil
  | cons a _ ih => exact .cons (f _ _ a) ih
theorem ObjOk.stay (x : ObjOk P w H h a o) (k : ∀ b u, (b = a ∨ H b = some (.own a)) → h.get? b = some u → h'.get? b = some u)
    (ho : ∀ b, H b = some (.own a) → H' b = some (.own a)) (ht : ∀ b xs, H b = some (.tup xs) → H' b = some (.tup xs)) : ObjOk P w H' h' a o := by
  induction o with
  | lst xs => obtain ⟨z, its, n, r, e⟩ := x; exact ⟨z, its, n, r, k _ _ (.inl rfl) e⟩
  | tup xs => obtain ⟨z, its, r, ob, e, c⟩ := x; exact ⟨z, its, r, ob, k _ _ (.inl rfl) e, c⟩
  | dK kvs => obtain ⟨z, y, vs, r, ob, es, ep, e, c⟩ := x; exact ⟨z, y, vs, r, ob, es, ep, k _ _ (.inl rfl) e, c⟩
  | dT kvs =>
    obtain ⟨z, y, xs, r, ob, es, ep, e, c⟩ := x
    exact ⟨z, y, xs, Paired.mapP r fun p q z => ⟨z.1, ht _ _ z.2.1, z.2.2⟩, ob, es, ep, k _ _ (.inl rfl) e, c⟩
  | set S n => obtain ⟨ob, es, ep, t, e, c⟩ := x; exact ⟨ob, es, ep, t, k _ _ (.inl rfl) e, c⟩
  | ins C dx fs =>
    obtain ⟨d, z, ne, e, mA, ⟨od, es, ep, e2, c⟩, r⟩ := x
    exact ⟨ho _ d, z, ne, k _ _ (.inl rfl) e, mA, ⟨od, es, ep, k _ _ (.inr d) e2, c⟩, r⟩
  | own y => obtain ⟨ob, e⟩ := x; exact ⟨ob, k _ _ (.inl rfl) e⟩
  | xd fs => obtain ⟨mA, ⟨od, es, ep, e, c⟩, r⟩ := x; exact ⟨mA, ⟨od, es, ep, k _ _ (.inl rfl) e, c⟩, r⟩
  | rng lo hi => obtain ⟨t, u, v, e⟩ := x; exact ⟨t, u, v, k _ _ (.inl rfl) e⟩
  | frz ob u ih => obtain ⟨e, q⟩ := x; exact ⟨k _ _ (.inl rfl) e, ih q⟩
  | tbl ps =>
    have e : h.get? a = some { cls := .none, data := .fields ps } := x
    show h'.get? a = some { cls := .none, data := .fields ps }
    exact k a _ (.inl rfl) e
  | met f y =>
    have e : h.get? a = some (PySem.W.methodObj (.ref f) (.ref y)) := x
    show h'.get? a = some (PySem.W.methodObj (.ref f) (.ref y))
    exact k a _ (.inl rfl) e
  | ext φ => obtain ⟨p, ⟨o, e⟩, st⟩ := x; exact ⟨st _ _ p fun o q => k _ _ (.inl rfl) q, ⟨o, k _ _ (.inl rfl) e⟩, st⟩
theorem HOk.lt (x : HOk P w H h) (e : H a = some o) : a < h.objs.size := (x a o e).lt
theorem HOk.fresh (x : HOk P w H h) (e : h.objs.size ≤ a) : H a = none := by
  cases q : H a with
  | none => rfl
  | some u => exact absurd (Nat.lt_of_lt_of_le (x.lt q) e) (Nat.lt_irrefl _)
theorem HOk.kept (x : HOk P w H h) (k : ∀ b u, h.get? b = some u → h'.get? b = some u) : HOk P w H h' := fun a o e =>
  (x a o e).stay (fun b u _ q => k b u q) (fun _ q => q) fun _ _ q => q
theorem HOk.laid (x : HOk P w H h) (k : ∀ b u, h.get? b = some u → h'.get? b = some u) (hp : h.objs.size ≤ a) (new : ObjOk P w (upd H a o) h' a o) : HOk P w (upd H a o) h' := fun b u e => by
  have hn := x.fresh hp
  by_cases hb : b = a
  · subst hb; rw [upd_same] at e; cases e; exact new
  · rw [upd_ne hb] at e
    exact (x b u e).stay (fun c v _ q => k c v q) (fun c q => by rw [upd_ne (ne_of_none q hn)]; exact q) fun c xs q => by rw [upd_ne (ne_of_none q hn)]; exact q
end

def Rd (H : Hp) (a : Addr) (u : HO) : Prop := H a = some u ∨ ∃ o, H a = some (.frz o u)
theorem Rd.ok {P : Program} {w : World} {H : Hp} {h : Heap} {a : Addr} {u : HO} (r : Rd H a u) (x : HOk P w H h) : ObjOk P w H h a u := by
  rcases r with r | ⟨o, r⟩
  · exact x a u r
  · obtain ⟨_, q⟩ := x a _ r
    exact q
def Mut : Option HO → Prop
  | some (.lst _) => True
  | some (.dK _) => True
  | some (.dT _) => True
  | some (.set _ _) => True
  | some (.ins _ _ _) => True
  | some (.ext _) => True
  | _ => False
section
variable {P : Program} {w : World} {H : Hp} {h h' : Heap} {x e : Addr} {o' : HO}
theorem HOk.write (ok : HOk P w H h) (mu : Mut (H x)) (he : e = x ∨ H e = some (.own x)) (k : ∀ b u, b ≠ e → h.get? b = some u → h'.get? b = some u) (heo : ∃ u, h'.get? e = some u)
    (new : ObjOk P w (upd H x o') h' x o') : HOk P w (upd H x o') h' := fun b u q => by
  have nown : ∀ c y, H c = some (.own y) → c ≠ x := fun c y r z => by subst z; rw [r] at mu; exact mu
  have ntup : ∀ c xs, H c = some (.tup xs) → c ≠ x := fun c xs r z => by subst z; rw [r] at mu; exact mu
  by_cases hb : b = x
  · subst hb; rw [upd_same] at q; cases q; exact new
  · rw [upd_ne hb] at q
    by_cases hbe : b = e
    · have q' : H b = some (.own x) := by
        rcases he with z | z
        · exact absurd (hbe.trans z) hb
        · rw [hbe]; exact z
      rw [q] at q'; cases q'
      obtain ⟨v, hv⟩ := heo
      exact ⟨v, by rw [hbe]; exact hv⟩
    · refine (ok b u q).stay (fun c v hc r => k c v ?_ r) (fun c r => by rw [upd_ne (nown c b r)]; exact r) fun c xs r => by rw [upd_ne (ntup c xs r)]; exact r
      rcases hc with rfl | hc
      · exact hbe
      · rintro rfl
        rcases he with z | z
        · exact nown c b hc z
        · rw [hc] at z; cases z; exact hb rfl
end

structure Un (fs ex : List Addr) (H H' : Hp) (h h' : Heap) : Prop where
  keep : ∀ b o, h.get? b = some o → H b = none → b ∉ fs → b ∉ ex → h'.get? b = some o
  slot : ∀ b o, h.get? b = some o → H b = none → b ∈ fs → b ∉ ex → ∃ sl, h'.get? b = some { o with slots := sl }
  free : ∀ b o, h.get? b = some o → H b = none → b ∉ ex → H' b = none
  there : ∀ b o, h.get? b = some o → b ∉ ex → ∃ o', h'.get? b = some o'
  tups : ∀ b xs, H b = some (.tup xs) → H' b = some (.tup xs)
  frzs : ∀ b o u, H b = some (.frz o u) → H' b = some (.frz o u)
  tbls : ∀ b ps, H b = some (.tbl ps) → ∃ more, H' b = some (.tbl (ps ++ more))
section
variable {fs fs' ex ex' : List Addr} {H H1 H2 : Hp} {h h1 h2 h' : Heap} {a x e : Addr} {o : HO}
theorem Un.any (u : Un fs ex H H1 h h1) {b : Addr} {ob : Obj} (q : h.get? b = some ob) (n : H b = none) (hx : b ∉ ex) : ∃ sl, h1.get? b = some { ob with slots := sl } := by
  by_cases hb : b ∈ fs
  · exact u.slot b ob q n hb hx
  · exact ⟨ob.slots, u.keep b ob q n hb hx⟩
theorem Un.kept (k : ∀ b u, h.get? b = some u → h'.get? b = some u) : Un fs ex H H h h' :=
  ⟨fun b ob q _ _ _ => k b ob q, fun b ob q _ _ _ => ⟨ob.slots, k b ob q⟩, fun _ _ _ n _ => n, fun b ob q _ => ⟨ob, k b ob q⟩, fun _ _ q => q, fun _ _ _ q => q, fun _ ps q => ⟨#[], by rw [q]; simp⟩⟩
theorem Un.refl : Un fs ex H H h h := Un.kept fun _ _ q => q
theorem Un.laid (k : ∀ b u, h.get? b = some u → h'.get? b = some u) (hp : h.objs.size ≤ a) (hn : H a = none) : Un fs ex H (upd H a o) h h' where
  keep := fun b u q _ _ _ => k b u q
  slot := fun b u q _ _ _ => ⟨u.slots, k b u q⟩
  free := fun b u q n _ => by rw [upd_ne (Nat.ne_of_lt (Nat.lt_of_lt_of_le (Heap.lt_size q) hp))]; exact n
  there := fun b u q _ => ⟨u, k b u q⟩
  tups := fun b xs q => by rw [upd_ne (ne_of_none q hn)]; exact q
  frzs := fun b u xs q => by rw [upd_ne (ne_of_none q hn)]; exact q
  tbls := fun b ps q => ⟨#[], by rw [upd_ne (ne_of_none q hn), q]; simp⟩
theorem Un.write (mu : Mut (H x)) (he : e = x ∨ H e = some (.own x)) (k : ∀ b u, b ≠ e → h.get? b = some u → h'.get? b = some u) (heo : ∃ u, h'.get? e = some u) : Un fs ex H (upd H x o) h h' := by
  have hx : ∀ b, H b = none → b ≠ x := fun b n z => by subst z; rw [n] at mu; exact mu
  have hb : ∀ b, H b = none → b ≠ e := fun b n z => by
    subst z
    rcases he with r | r
    · exact hx b n r
    · rw [n] at r; cases r
  have hm : ∀ b u, H b = some u → ¬ Mut (some u) → b ≠ x := fun b u q nm z => by subst z; rw [q] at mu; exact nm mu
  refine ⟨fun b u q n _ _ => k b u (hb b n) q, fun b u q n _ _ => ⟨u.slots, k b u (hb b n) q⟩, fun b u q n _ => by rw [upd_ne (hx b n)]; exact n, fun b u q _ => ?_,
    fun b xs q => by rw [upd_ne (hm b _ q fun z => z)]; exact q, fun b u xs q => by rw [upd_ne (hm b _ q fun z => z)]; exact q, fun b ps q => ⟨#[], by rw [upd_ne (hm b _ q fun z => z), q]; simp⟩⟩
  by_cases hbe : b = e
  · subst hbe; exact heo
  · exact ⟨u, k b u hbe q⟩
end

def trk (h : Heap) (H : Hp) : List Addr := (List.range h.objs.size).filter fun a => (H a).isSome
def hidT (h : Heap) (H : Hp) : Heap := PySem.W.hideAll h (trk h H)
theorem hidT_size (h : Heap) (H : Hp) : (hidT h H).objs.size = h.objs.size := PySem.W.hideAll_size _ _
theorem hidT_get {h : Heap} {H : Hp} {b : Addr} {o : Obj} (e : h.get? b = some o) (n : H b = none) : (hidT h H).get? b = some o :=
  PySem.W.hideAll_get _ e fun hm => by
    have q : (H b).isSome = true := (List.mem_filter.mp hm).2
    rw [n] at q; simp at q
theorem of_hidT {h : Heap} {H : Hp} {b : Addr} {o : Obj} (e : (hidT h H).get? b = some o) : h.get? b = some o ∧ H b = none := by
  have e' : h.get? b = some o := PySem.W.of_hideAll (trk h H) e
  refine ⟨e', ?_⟩
  cases q : H b with
  | none => rfl
  | some x =>
    have hm : b ∈ trk h H := List.mem_filter.mpr ⟨List.mem_range.mpr (Heap.lt_size e'), by simp [q]⟩
    have z : (hidT h H).get? b = none := PySem.W.hideAll_none (trk h H) hm
    rw [z] at e; cases e

def allNews (g h : Heap) (L : Addr) : List (Addr × Obj) := (List.range h.objs.size).filterMap fun a => if a = L ∨ (g.get? a).isSome = true then none else (h.get? a).map fun o => (a, o)
def rest (g h : Heap) (L d : Addr) : List (Addr × Obj) := (allNews g h L).filter fun p => decide (p.1 ≠ d)
end L2

namespace L2
open PySem PySem.Spec PyProof.Rows

structure Mod (K : PySem.W.Frag) (mg : Str → Option Value) (base : Heap) : Prop where
  kin : K.In base
  glob : base.Ns mainGlobals mg
  blt : ∃ mb, base.Ns builtinsNs mb ∧ ∀ x : Str, x ≠ "__name__" → mb x = bootBuiltins x
  nolimit : base.NoLimit

structure Cx where
  prog : Program
  w : World
  K : PySem.W.Frag
  mg : Str → Option Value
  base : Heap
  A : Around
  N : List Str
  s₀ : Shared
  H₀ : Hp
  env : Env
  outer : List Env
  stack : List Env
  ex : List Addr
  fn : Str → Bool
  calm : Bool
  pn : List (Addr × Obj)
  xe : Value → Shared → Prop
def frs (l : List Env) : List Addr := l.filterMap (·.frame)
abbrev Cx.fs (X : Cx) : List Addr := frs X.outer

def Vis (sc : Scope) (x : Str) : Prop := sc.names.lookup x = some .local ∨ sc.names.lookup x = some .cell ∨ sc.names.lookup x = some .free
def Loc (sc : Scope) (x : Str) : Prop := sc.names.lookup x = some .local ∨ sc.names.lookup x = some .cell
def Look (env : Env) (h : Heap) (m : Str → Option Value) (x : Str) (u : Value) : Prop :=
  (env.kindOf x = some .local ∧ m x = some u) ∨ ((env.kindOf x = some .cell ∨ env.kindOf x = some .free) ∧ ∃ c, env.cells.lookup x = some c ∧ h.IsCell c (some u))

structure Cx.Ok (X : Cx) : Prop where
  mod : Mod X.K X.mg X.base
  kind : X.env.scope.kind = .function
  glob : X.env.globals = mainGlobals
  blt : X.env.builtins = builtinsNs
  above : X.s₀.heap.objs.size ≤ X.env.locals
  inj : ∀ x y c, X.env.cells.lookup x = some c → X.env.cells.lookup y = some c → x = y
  has : ∀ x, (X.env.kindOf x = some .cell ∨ X.env.kindOf x = some .free) → ∃ c, X.env.cells.lookup x = some c
  cab : ∀ x c, X.fn x = true → X.env.cells.lookup x = some c → X.s₀.heap.objs.size ≤ c
  hd : X.calm = true → X.A.handled = none
  frames : X.A.frames = some X.stack
  stk : X.stack = X.outer ∨ (X.stack = X.env :: X.outer ∧ X.env.frame = some X.env.locals)
  exf : ∀ b ∈ X.ex, b ≠ X.env.locals ∧ ∀ x c, X.env.cells.lookup x = some c → c ≠ b
  bs : ∀ b o, X.base.get? b = some o → X.s₀.heap.get? b = some o ∧ X.H₀ b = none
  bsz : X.base.objs.size ≤ X.s₀.heap.objs.size
  noex : ∀ b o, X.base.get? b = some o → b ∉ X.ex
  exfs : ∀ b ∈ X.ex, b ∉ X.fs
  funs : X.s₀.heap.FunFrames X.base X.outer
  frf : ∀ b ∈ X.fs, X.H₀ b = none

structure Inv (X : Cx) (pins : List (Addr × Obj)) (σ : List (Option V)) (H : Hp) (s : Shared) : Prop where
  ok : X.Ok
  os : s.os = X.s₀.os
  bare : AllBare s.gens
  base : Un X.fs X.ex X.H₀ H X.s₀.heap s.heap
  loc : ∃ m, s.heap.Ns X.env.locals m ∧ ∀ (i : Nat) (x : Str) (v : V), X.N[i]? = some x → σ[i]? = some (some v) → Vis X.env.scope x → ∃ u, RelV v u ∧ Look X.env s.heap m x u
  cell : ∀ x c, X.env.cells.lookup x = some c → ∃ v, s.heap.IsCell c v
  free : H X.env.locals = none
  freeC : ∀ x c, X.env.cells.lookup x = some c → H c = none
  pin : ∀ p ∈ X.pn ++ pins, s.heap.get? p.1 = some p.2 ∧ H p.1 = none ∧ p.1 ≠ X.env.locals ∧ p.1 ∉ X.fs ∧ ∀ v, p.2.data ≠ .cell v
  hok : HOk X.prog X.w H s.heap
  len : σ.length = X.N.length

section
variable {X : Cx} {pins : List (Addr × Obj)} {σ : List (Option V)} {H H' : Hp} {s : Shared} {h' : Heap}

theorem Cx.Ok.nofr (ok : X.Ok) {b : Addr} {o : Obj} (e : X.base.get? b = some o) : b ∉ X.fs := fun hb => by
  have := (ok.funs.mem hb).1
  rw [e] at this; cases this
theorem Inv.bs (I : Inv X pins σ H s) : ∀ b o, X.base.get? b = some o → s.heap.get? b = some o ∧ H b = none := fun b o e =>
  ⟨I.base.keep b o (I.ok.bs b o e).1 (I.ok.bs b o e).2 (I.ok.nofr e) (I.ok.noex b o e), I.base.free b o (I.ok.bs b o e).1 (I.ok.bs b o e).2 (I.ok.noex b o e)⟩
theorem Inv.bk (I : Inv X pins σ H s) : ∀ b o, X.base.get? b = some o → s.heap.get? b = some o := fun b o e => (I.bs b o e).1
theorem Inv.mod (I : Inv X pins σ H s) : Mod X.K X.mg X.base := I.ok.mod
theorem Inv.kIn (I : Inv X pins σ H s) : X.K.In s.heap := I.ok.mod.kin.keeps I.bk
theorem Inv.lt (I : Inv X pins σ H s) : X.env.locals < s.heap.objs.size := let ⟨_, hn, _⟩ := I.loc; hn.lt
theorem Inv.sz (I : Inv X pins σ H s) : X.s₀.heap.objs.size ≤ s.heap.objs.size := Nat.le_trans I.ok.above (Nat.le_of_lt I.lt)
theorem Inv.nofs (I : Inv X pins σ H s) {a : Addr} (h : s.heap.objs.size ≤ a) : a ∉ X.fs := fun hb => by
  obtain ⟨_, o, ho, _⟩ := I.ok.funs.mem hb
  exact absurd (Nat.lt_of_lt_of_le (Heap.lt_size ho) (Nat.le_trans I.sz h)) (Nat.lt_irrefl _)
theorem Inv.cne (I : Inv X pins σ H s) : ∀ x c, X.env.cells.lookup x = some c → c ≠ X.env.locals := fun x c e z => by
  obtain ⟨v, o, ho, hd⟩ := I.cell x c e
  obtain ⟨m, ⟨o', es, ep, ho', hd', _⟩, _⟩ := I.loc
  rw [z, ho'] at ho; cases ho; rw [hd'] at hd; cases hd
theorem Inv.funs (I : Inv X pins σ H s) : s.heap.FunFrames X.base X.outer := by
  have all : ∀ (l : List Env), (∀ b ∈ frs l, b ∈ X.fs) → X.s₀.heap.FunFrames X.base l → s.heap.FunFrames X.base l := by
    intro l
    induction l with
    | nil => intro _ _; trivial
    | cons env r ih =>
      intro hs hl
      obtain ⟨hk, ⟨L, o, hf, hn, ho, hd⟩, hr⟩ := hl
      have hL : L ∈ X.fs := hs L (by unfold frs; rw [List.filterMap_cons, hf]; exact List.mem_cons_self)
      obtain ⟨sl, e⟩ := I.base.slot L o ho (I.ok.frf L hL) hL fun z => I.ok.exfs L z hL
      exact ⟨hk, ⟨L, _, hf, hn, e, hd⟩, ih (fun b hb => hs b (by unfold frs; rw [List.filterMap_cons, hf]; exact List.mem_cons_of_mem _ hb)) hr⟩
  exact all X.outer (fun _ hb => hb) I.ok.funs

theorem Inv.stack (I : Inv X pins σ H s) : s.heap.FunFrames X.base X.stack := by
  rcases I.ok.stk with e | ⟨e, hf⟩
  · rw [e]; exact I.funs
  · rw [e]
    obtain ⟨m, hn, _⟩ := I.loc
    refine .cons (by rw [I.ok.kind]; decide) hf hn ?_ I.funs
    exact Heap.get?_none_of_le (Nat.le_trans I.ok.bsz I.ok.above)
theorem Inv.stkSub (I : Inv X pins σ H s) : ∀ b ∈ frs X.stack, b ∈ X.env.locals :: X.fs := fun b hb => by
  rcases I.ok.stk with e | ⟨e, hf⟩
  · rw [e] at hb; exact List.mem_cons_of_mem _ hb
  · rw [e] at hb
    unfold frs at hb
    rw [List.filterMap_cons, hf] at hb
    exact hb
theorem Inv.stkFree (I : Inv X pins σ H s) : ∀ b ∈ frs X.stack, H b = none := fun b hb => by
  rcases List.mem_cons.mp (I.stkSub b hb) with e | hb
  · rw [e]; exact I.free
  · obtain ⟨_, o, ho, _⟩ := I.ok.funs.mem hb
    exact I.base.free b o ho (I.ok.frf b hb) fun z => I.ok.exfs b z hb

theorem Inv.step {g' : Array GenState} {t' : Nat} {d' : Drawn} {ch : List Addr} (I : Inv X pins σ H s)
    (hch : ∀ b ∈ ch, (b ∈ X.ex ∨ X.s₀.heap.objs.size ≤ b) ∧ b ≠ X.env.locals ∧ (∀ x c, X.env.cells.lookup x = some c → c ≠ b) ∧ ∀ p ∈ X.pn ++ pins, p.1 ≠ b)
    (keep : ∀ b o, b ≠ X.env.locals → b ∉ X.fs → b ∉ ch → s.heap.get? b = some o → H b = none → h'.get? b = some o)
    (slot : ∀ b o, b ≠ X.env.locals → b ∈ X.fs → b ∉ ch → s.heap.get? b = some o → H b = none → ∃ sl, h'.get? b = some { o with slots := sl }) (free : ∀ b o, b ∉ ch → s.heap.get? b = some o → H b = none → H' b = none)
    (there : ∀ b o, b ∉ ch → s.heap.get? b = some o → ∃ o', h'.get? b = some o')
    (tups : ∀ b xs, H b = some (.tup xs) → H' b = some (.tup xs)) (frzs : ∀ b o u, H b = some (.frz o u) → H' b = some (.frz o u)) (tbls : ∀ b ps, H b = some (.tbl ps) → ∃ more, H' b = some (.tbl (ps ++ more)))
    (ns : ∀ m, s.heap.Ns X.env.locals m → h'.Ns X.env.locals m) (hok : HOk X.prog X.w H' h') (hg : AllBare g') :
    Inv X pins σ H' { s with heap := h', gens := g', drawn := d', toks := t' } := by
  have neL : ∀ b o, X.s₀.heap.get? b = some o → b ≠ X.env.locals := fun b o e => Nat.ne_of_lt (Nat.lt_of_lt_of_le (Heap.lt_size e) I.ok.above)
  have neC : ∀ b o, X.s₀.heap.get? b = some o → b ∉ X.ex → b ∉ ch := fun b o e hx hb => by
    rcases (hch b hb).1 with z | z
    · exact hx z
    · exact absurd (Nat.lt_of_lt_of_le (Heap.lt_size e) z) (Nat.lt_irrefl _)
  have cellK : ∀ x c, X.env.cells.lookup x = some c → ∀ v, s.heap.IsCell c v → h'.IsCell c v := fun x c e v ⟨o, ho, hd⟩ => by
    have nch : c ∉ ch := fun z => (hch c z).2.2.1 x c e rfl
    by_cases hc : c ∈ X.fs
    · obtain ⟨sl, q⟩ := slot c o (I.cne x c e) hc nch ho (I.freeC x c e)
      exact ⟨_, q, hd⟩
    · exact ⟨o, keep c o (I.cne x c e) hc nch ho (I.freeC x c e), hd⟩
  refine ⟨I.ok, I.os, hg, ⟨fun b o e n hb hx => ?_, fun b o e n hb hx => ?_, fun b o e n hx => ?_, fun b o e hx => ?_, fun b xs e => tups b xs (I.base.tups b xs e), fun b o xs e => frzs b o xs (I.base.frzs b o xs e), fun b ps e => ?_⟩, ?_, fun x c e => ?_, ?_, fun x c e => ?_, fun p hp => ?_, hok, I.len⟩
  · exact keep b o (neL b o e) hb (neC b o e hx) (I.base.keep b o e n hb hx) (I.base.free b o e n hx)
  · obtain ⟨sl, e1⟩ := I.base.slot b o e n hb hx
    obtain ⟨sl', e2⟩ := slot b _ (neL b o e) hb (neC b o e hx) e1 (I.base.free b o e n hx)
    exact ⟨sl', e2⟩
  · obtain ⟨o', e1⟩ := I.base.there b o e hx
    exact free b o' (neC b o e hx) e1 (I.base.free b o e n hx)
  · obtain ⟨o', e1⟩ := I.base.there b o e hx
    exact there b o' (neC b o e hx) e1
  · obtain ⟨m1, e1⟩ := I.base.tbls b ps e
    obtain ⟨m2, e2⟩ := tbls b _ e1
    exact ⟨m1 ++ m2, by rw [e2, Array.append_assoc]⟩
  · obtain ⟨m, hn, hl⟩ := I.loc
    refine ⟨m, ns m hn, fun i x v e1 e2 e3 => ?_⟩
    obtain ⟨u, r, l⟩ := hl i x v e1 e2 e3
    refine ⟨u, r, ?_⟩
    rcases l with l | ⟨k, c, e, z⟩
    · exact .inl l
    · exact .inr ⟨k, c, e, cellK x c e _ z⟩
  · obtain ⟨v, z⟩ := I.cell x c e
    exact ⟨v, cellK x c e v z⟩
  · obtain ⟨m, ⟨o, _, _, ho, _⟩, _⟩ := I.loc
    exact free _ o (fun z => (hch _ z).2.1 rfl) ho I.free
  · obtain ⟨v, o, ho, hd⟩ := I.cell x c e
    exact free c o (fun z => (hch c z).2.2.1 x c e rfl) ho (I.freeC x c e)
  · obtain ⟨e, n, ne, nf, d⟩ := I.pin p hp
    have nch : p.1 ∉ ch := fun z => (hch p.1 z).2.2.2 p hp rfl
    exact ⟨keep p.1 p.2 ne nf nch e n, free p.1 p.2 nch e n, ne, nf, d⟩
theorem Inv.un {t' : Nat} (I : Inv X pins σ H s) (u : Un X.fs [] H H' s.heap h') (hok : HOk X.prog X.w H' h') : Inv X pins σ H' { s with heap := h', toks := t' } := by
  obtain ⟨m, ⟨o, es, ep, ho, r⟩, _⟩ := id I.loc
  obtain ⟨sl, hL⟩ := u.any ho I.free (by simp)
  exact I.step (g' := s.gens) (d' := s.drawn) (ch := []) (fun _ z => nomatch z) (fun b o _ hb _ e n => u.keep b o e n hb (by simp)) (fun b o _ hb _ e n => u.slot b o e n hb (by simp)) (fun b o _ e n => u.free b o e n (by simp)) (fun b o _ e => u.there b o e (by simp)) u.tups u.frzs u.tbls (fun m' hm => by
    obtain ⟨o', es', ep', ho', r'⟩ := hm
    rw [ho] at ho'; cases ho'
    exact ⟨_, es', ep', hL, r'⟩) hok I.bare
theorem Inv.call {g' : Array GenState} {t' : Nat} {d' : Drawn} {ch : List Addr} (I : Inv X pins σ H s) (u : Un (frs X.stack) ch H H' s.heap h') (hok : HOk X.prog X.w H' h') (hg : AllBare g')
    (hch : ∀ b ∈ ch, (b ∈ X.ex ∨ X.s₀.heap.objs.size ≤ b) ∧ b ≠ X.env.locals ∧ (∀ x c, X.env.cells.lookup x = some c → c ≠ b) ∧ ∀ p ∈ X.pn ++ pins, p.1 ≠ b) :
    Inv X pins σ H' { s with heap := h', gens := g', drawn := d', toks := t' } := by
  obtain ⟨m, ⟨o, es, ep, ho, r⟩, _⟩ := id I.loc
  obtain ⟨sl, hL⟩ := u.any ho I.free fun z => (hch _ z).2.1 rfl
  exact I.step (ch := ch) hch (fun b o hL hb hc e n => u.keep b o e n (fun z => (List.mem_cons.mp (I.stkSub b z)).elim hL hb) hc) (fun b o _ _ hc e n => u.any e n hc) (fun b o hc e n => u.free b o e n hc) (fun b o hc e => u.there b o e hc) u.tups u.frzs u.tbls (fun m' hm => by
    obtain ⟨o', es', ep', ho', r'⟩ := hm
    rw [ho] at ho'; cases ho'
    exact ⟨_, es', ep', hL, r'⟩) hok hg
theorem Inv.turned {t' : Nat} {it : Addr} (I : Inv X pins σ H s) (k : ∀ b o, b ≠ it → s.heap.get? b = some o → h'.get? b = some o) (hn : H it = none) (hL : it ≠ X.env.locals)
    (h1 : it ∈ X.ex ∨ X.s₀.heap.objs.size ≤ it) (h2 : ∀ x c, X.env.cells.lookup x = some c → c ≠ it) (h3 : ∀ p ∈ X.pn ++ pins, p.1 ≠ it) : Inv X pins σ H { s with heap := h', toks := t' } := by
  have nit : ∀ b u, H b = some u → b ≠ it := fun b u e z => by rw [z, hn] at e; cases e
  refine I.step (g' := s.gens) (d' := s.drawn) (ch := [it]) (fun b hb => ?_) (fun b o _ _ hc e _ => k b o (fun z => hc (by simp [z])) e) (fun b o _ _ hc e _ => ⟨o.slots, k b o (fun z => hc (by simp [z])) e⟩) (fun _ _ _ _ n => n)
    (fun b o hc e => ⟨o, k b o (fun z => hc (by simp [z])) e⟩) (fun _ _ e => e) (fun _ _ _ e => e) (fun b ps e => ⟨#[], by rw [e]; simp⟩) (fun m hm => ?_) (fun b u e => ?_) I.bare
  · have e : b = it := by simpa using hb
    subst e
    exact ⟨h1, hL, h2, h3⟩
  · obtain ⟨o, es, ep, ho, r⟩ := hm
    exact ⟨o, es, ep, k _ o (Ne.symm hL) ho, r⟩
  · refine (I.hok b u e).stay (fun c v hc q => k c v ?_ q) (fun _ q => q) fun _ _ q => q
    rcases hc with z | z
    · rw [z]; exact nit b u e
    · exact nit c _ z
theorem Inv.tok (I : Inv X pins σ H s) (t : Nat) : Inv X pins σ H { s with toks := t } := I.un (h' := s.heap) (t' := t) Un.refl I.hok
theorem Inv.kept {t' : Nat} (I : Inv X pins σ H s) (k : ∀ b u, s.heap.get? b = some u → h'.get? b = some u) : Inv X pins σ H { s with heap := h', toks := t' } := I.un (Un.kept k) (I.hok.kept k)
theorem Inv.laid {a : Addr} {o : HO} {t' : Nat} (I : Inv X pins σ H s) (k : ∀ b u, s.heap.get? b = some u → h'.get? b = some u) (hp : s.heap.objs.size ≤ a) (new : ObjOk X.prog X.w (upd H a o) h' a o) :
    Inv X pins σ (upd H a o) { s with heap := h', toks := t' } := I.un (Un.laid k hp (I.hok.fresh hp)) (I.hok.laid k hp new)
theorem Inv.write {x e : Addr} {o : HO} {t' : Nat} (I : Inv X pins σ H s) (mu : Mut (H x)) (he : e = x ∨ H e = some (.own x)) (k : ∀ b u, b ≠ e → s.heap.get? b = some u → h'.get? b = some u) (heo : ∃ u, h'.get? e = some u)
    (new : ObjOk X.prog X.w (upd H x o) h' x o) : Inv X pins σ (upd H x o) { s with heap := h', toks := t' } := I.un (Un.write mu he k heo) (I.hok.write mu he k heo new)
theorem Inv.pins_of {pins' : List (Addr × Obj)} (I : Inv X pins σ H s) (h : ∀ p ∈ pins', s.heap.get? p.1 = some p.2 ∧ H p.1 = none ∧ p.1 ≠ X.env.locals ∧ p.1 ∉ X.fs ∧ ∀ v, p.2.data ≠ .cell v) : Inv X pins' σ H s :=
  ⟨I.ok, I.os, I.bare, I.base, I.loc, I.cell, I.free, I.freeC, fun p hp => (List.mem_append.mp hp).elim (fun z => I.pin p (List.mem_append_left _ z)) (h p), I.hok, I.len⟩

theorem nodup_ix {N : List Str} (hN : N.Nodup) {i j : Nat} {x : Str} (a : N[i]? = some x) (b : N[j]? = some x) : i = j := by
  obtain ⟨h1, e1⟩ := List.getElem?_eq_some_iff.mp a
  obtain ⟨h2, e2⟩ := List.getElem?_eq_some_iff.mp b
  exact (List.getElem_inj hN).mp (e1.trans e2.symm)

theorem store_ok2 {M : Model} {A : Around} {E : Value → Shared → Prop} {i : Nat} {x : Str} {v : V} {u : Value} {Q : Unit → Shared → Prop} (I : Inv X pins σ H s) (hN : X.N.Nodup) (hi : X.N[i]? = some x) (hx : Loc X.env.scope x) (r : RelV v u)
    (h : ∀ s', Inv X pins (σ.set i (some v)) H s' → (∃ a, Heap.SameBut a s.heap s'.heap ∧ (a = X.env.locals ∨ X.env.cells.lookup x = some a)) → Q () s') (hf : X.fn x = true ∨ X.env.scope.names.lookup x = some .local := by first | exact .inl rfl | exact .inr rfl | assumption) : wpAny M A (storeName X.env x u) Q E s := by
  obtain ⟨m, hn, hl⟩ := id I.loc
  have hcls : (X.env.scope.kind == .class || (X.env.scope.kind == .module && X.env.locals != X.env.globals)) = false := by rw [I.ok.kind]; rfl
  have hiσ : i < σ.length := by rw [I.len]; exact (List.getElem?_eq_some_iff.mp hi).1
  have cne := I.cne
  have tracked : ∀ {a : Addr} {h' : Heap}, (∃ o, s.heap.get? a = some o ∧ H a = none) → Heap.SameBut a s.heap h' → HOk X.prog X.w H h' := fun {a h'} ha hs b ob e => by
    obtain ⟨_, _, hfree⟩ := ha
    refine (I.hok b ob e).stay (fun c w' hc q => (hs.2 c ?_).trans q) (fun _ q => q) fun _ _ q => q
    rintro rfl
    rcases hc with rfl | hc
    · rw [hfree] at e; cases e
    · rw [hfree] at hc; cases hc
  rcases hx with hk | hk
  · refine wpAny_storeName_local hk hn (fun h' hn' hs => ?_) hcls
    obtain ⟨oL, _, _, hoL, _⟩ := id hn
    refine h _ ⟨I.ok, I.os, I.bare, ⟨fun b o e n hb hx => ?_, fun b o e n hb hx => ?_, I.base.free, fun b o e hx => ?_, I.base.tups, I.base.frzs, I.base.tbls⟩, ⟨_, hn', fun j y v' e1 e2 e3 => ?_⟩, fun y c e => ?_, I.free, I.freeC, fun p hp => ?_, tracked ⟨oL, hoL, I.free⟩ hs, by simpa using I.len⟩ ⟨_, hs, .inl rfl⟩
    · exact (hs.2 b (Nat.ne_of_lt (Nat.lt_of_lt_of_le (Heap.lt_size e) I.ok.above))).trans (I.base.keep b o e n hb hx)
    · obtain ⟨sl, e1⟩ := I.base.slot b o e n hb hx
      exact ⟨sl, (hs.2 b (Nat.ne_of_lt (Nat.lt_of_lt_of_le (Heap.lt_size e) I.ok.above))).trans e1⟩
    · obtain ⟨o', e1⟩ := I.base.there b o e hx
      exact ⟨o', (hs.2 b (Nat.ne_of_lt (Nat.lt_of_lt_of_le (Heap.lt_size e) I.ok.above))).trans e1⟩
    · by_cases hj : j = i
      · subst hj
        rw [hi] at e1; cases e1
        rw [List.getElem?_set_self hiσ] at e2
        cases e2
        exact ⟨u, r, .inl ⟨hk, by simp⟩⟩
      · rw [List.getElem?_set_ne (Ne.symm hj)] at e2
        obtain ⟨u', r', q⟩ := hl j y v' e1 e2 e3
        refine ⟨u', r', ?_⟩
        rcases q with ⟨k, e⟩ | ⟨k, c, e, z⟩
        · refine .inl ⟨k, ?_⟩
          have : y ≠ x := fun e => hj (nodup_ix hN e1 (e ▸ hi))
          simp [this, e]
        · exact .inr ⟨k, c, e, z.sameBut hs (cne y c e)⟩
    · obtain ⟨w', z⟩ := I.cell y c e
      exact ⟨w', z.sameBut hs (cne y c e)⟩
    · obtain ⟨e, n, ne, nf, d⟩ := I.pin p hp
      exact ⟨(hs.2 p.1 ne).trans e, n, ne, nf, d⟩
  · have hfn : X.fn x = true := by
      rcases hf with z | z
      · exact z
      · rw [z] at hk; cases hk
    obtain ⟨c, hc⟩ := I.ok.has x (.inl hk)
    obtain ⟨w', z⟩ := I.cell x c hc
    refine wpAny_storeName_cell I.ok.kind hk hc z (fun h' hc' hs => ?_)
    obtain ⟨oc, hoc, hocd⟩ := id z
    refine h { s with heap := h' } ⟨I.ok, I.os, I.bare, ⟨fun b o e n hb hx => ?_, fun b o e n hb hx => ?_, I.base.free, fun b o e hx => ?_, I.base.tups, I.base.frzs, I.base.tbls⟩, ⟨m, hn.sameBut hs (Ne.symm (cne x c hc)), fun j y v' e1 e2 e3 => ?_⟩, fun y c' e => ?_, I.free, I.freeC, fun p hp => ?_, tracked ⟨oc, hoc, I.freeC x c hc⟩ hs, by simpa using I.len⟩ ⟨c, hs, .inr hc⟩
    · exact (hs.2 b (Nat.ne_of_lt (Nat.lt_of_lt_of_le (Heap.lt_size e) (I.ok.cab x c hfn hc)))).trans (I.base.keep b o e n hb hx)
    · obtain ⟨sl, e1⟩ := I.base.slot b o e n hb hx
      exact ⟨sl, (hs.2 b (Nat.ne_of_lt (Nat.lt_of_lt_of_le (Heap.lt_size e) (I.ok.cab x c hfn hc)))).trans e1⟩
    · obtain ⟨o', e1⟩ := I.base.there b o e hx
      exact ⟨o', (hs.2 b (Nat.ne_of_lt (Nat.lt_of_lt_of_le (Heap.lt_size e) (I.ok.cab x c hfn hc)))).trans e1⟩
    · by_cases hj : j = i
      · subst hj
        rw [hi] at e1; cases e1
        rw [List.getElem?_set_self hiσ] at e2
        cases e2
        exact ⟨u, r, .inr ⟨.inl hk, c, hc, hc'⟩⟩
      · rw [List.getElem?_set_ne (Ne.symm hj)] at e2
        obtain ⟨u', r', q⟩ := hl j y v' e1 e2 e3
        refine ⟨u', r', ?_⟩
        rcases q with q | ⟨k, c', e, z'⟩
        · exact .inl q
        · refine .inr ⟨k, c', e, z'.sameBut hs ?_⟩
          rintro rfl
          exact hj (nodup_ix hN e1 (I.ok.inj _ _ _ e hc ▸ hi))
    · by_cases hcc : c' = c
      · subst hcc; exact ⟨_, hc'⟩
      · obtain ⟨w2, z2⟩ := I.cell y c' e
        exact ⟨w2, z2.sameBut hs hcc⟩
    · obtain ⟨e, n, ne, nf, d⟩ := I.pin p hp
      refine ⟨(hs.2 p.1 ?_).trans e, n, ne, nf, d⟩
      intro q
      rw [q, hoc] at e
      have q' : oc = p.2 := Option.some.inj e
      exact d w' (by rw [← q']; exact hocd)
theorem store_ok {M : Model} {A : Around} {E : Value → Shared → Prop} {i : Nat} {x : Str} {v : V} {u : Value} {Q : Unit → Shared → Prop} (I : Inv X pins σ H s) (hN : X.N.Nodup) (hi : X.N[i]? = some x) (hx : Loc X.env.scope x) (r : RelV v u)
    (h : ∀ s', Inv X pins (σ.set i (some v)) H s' → Q () s') (hf : X.fn x = true ∨ X.env.scope.names.lookup x = some .local := by first | exact .inl rfl | exact .inr rfl | assumption) : wpAny M A (storeName X.env x u) Q E s :=
  store_ok2 I hN hi hx r (fun s' I' _ => h s' I') hf
theorem Inv.call' {s' : Shared} {ch : List Addr} (I : Inv X pins σ H s) (ho : s'.os = s.os) (u : Un (frs X.stack) ch H H' s.heap s'.heap) (hok : HOk X.prog X.w H' s'.heap) (hg : AllBare s'.gens)
    (hch : ∀ b ∈ ch, (b ∈ X.ex ∨ X.s₀.heap.objs.size ≤ b) ∧ b ≠ X.env.locals ∧ (∀ x c, X.env.cells.lookup x = some c → c ≠ b) ∧ ∀ p ∈ X.pn ++ pins, p.1 ≠ b) : Inv X pins σ H' s' := by
  obtain ⟨h', g', d', t', o'⟩ := s'
  have e : o' = s.os := ho
  subst e
  exact I.call (g' := g') (t' := t') (d' := d') u hok hg hch
end

abbrev XK := Value → Option Addr → Hp → Prop
abbrev St := List (Option V)
abbrev VK := V → Hp → Prop
abbrev TE := St → Hp → VK → Prop
abbrev TT := St → Hp → (Bool → Hp → Prop) → Prop
abbrev TA := St → Hp → (List V → Hp → Prop) → Prop
structure Ends where
  nx : St → Hp → Prop
  rt : VK
  bk : St → Hp → Prop := fun _ _ => False
  ct : St → Hp → Prop := fun _ _ => False
abbrev TS := Ends → St → Hp → Prop

inductive BlQ (x : V) (H : Hp) (Q : Bool → Hp → Prop) : Prop
  | mk (c : Bool) (e : x = .bl c) (q : Q c H)
inductive AndQ (tb : TE) (σ : St) (x : V) (H : Hp) (Q : VK) : Prop
  | mk (c : Bool) (e : x = .bl c) (q : if c = true then tb σ H Q else Q (.bl false) H)
inductive OrQ (tb : TE) (σ : St) (x : V) (H : Hp) (Q : VK) : Prop
  | mk (c : Bool) (e : x = .bl c) (q : if c = true then Q (.bl true) H else tb σ H Q)
inductive NotQ (x : V) (H : Hp) (Q : VK) : Prop
  | mk (c : Bool) (e : x = .bl c) (q : Q (.bl (!c)) H)
inductive PtQ (x : V) (H : Hp) (Q : Option Int → Hp → Prop) : Prop
  | mk (i : Int) (e : x = .int i) (q : Q (some i) H)
inductive EP (X : Cx) (pins : List (Addr × Obj)) (σ : St) (Q : VK) (u : Value) (s' : Shared) : Prop
  | mk (v : V) (H' : Hp) (I : Inv X pins σ H' s') (r : RelV v u) (q : Q v H')
inductive TP (X : Cx) (pins : List (Addr × Obj)) (σ : St) (Q : Bool → Hp → Prop) (b : Bool) (s' : Shared) : Prop
  | mk (H' : Hp) (I : Inv X pins σ H' s') (q : Q b H')
inductive AP (X : Cx) (pins : List (Addr × Obj)) (σ : St) (Q : List V → Hp → Prop) (us : List Value) (s' : Shared) : Prop
  | mk (vs : List V) (H' : Hp) (I : Inv X pins σ H' s') (r : Vals vs us) (q : Q vs H')
theorem EP.elim {X : Cx} {pins : List (Addr × Obj)} {σ : St} {Q : VK} {u : Value} {s' : Shared} {G : Prop} (h : EP X pins σ Q u s') (k : ∀ (v : V) (H' : Hp), Inv X pins σ H' s' → RelV v u → Q v H' → G) : G := by
  cases h with
  | mk v H' I r q => exact k v H' I r q
theorem AP.elim {X : Cx} {pins : List (Addr × Obj)} {σ : St} {Q : List V → Hp → Prop} {us : List Value} {s' : Shared} {G : Prop} (h : AP X pins σ Q us s') (k : ∀ (vs : List V) (H' : Hp), Inv X pins σ H' s' → Vals vs us → Q vs H' → G) : G := by
  cases h with
  | mk v H' I r q => exact k v H' I r q
theorem TP.elim {X : Cx} {pins : List (Addr × Obj)} {σ : St} {Q : Bool → Hp → Prop} {b : Bool} {s' : Shared} {G : Prop} (h : TP X pins σ Q b s') (k : ∀ H' : Hp, Inv X pins σ H' s' → Q b H' → G) : G := by
  cases h with
  | mk H' I q => exact k H' I q
inductive SPN (X : Cx) (pins : List (Addr × Obj)) (N : St → Hp → Prop) (s' : Shared) : Prop
  | mk (σ : St) (H' : Hp) (I : Inv X pins σ H' s') (q : N σ H')
inductive SPR (X : Cx) (pins : List (Addr × Obj)) (Q : VK) (u : Value) (s' : Shared) : Prop
  | mk (v : V) (σ : St) (H' : Hp) (I : Inv X pins σ H' s') (r : RelV v u) (q : Q v H')
def SP (X : Cx) (pins : List (Addr × Obj)) (D : Ends) (f : Flow) (s' : Shared) : Prop :=
  match f with
  | .next => SPN X pins D.nx s'
  | .brk => SPN X pins D.bk s'
  | .cont => SPN X pins D.ct s'
  | .ret u => SPR X pins D.rt u s'

def PE (X : Cx) (e : Expr) (t : TE) : Prop :=
  ∀ (pins : List (Addr × Obj)) (s : Shared) (σ : St) (H : Hp) (Q : VK), Inv X pins σ H s → t σ H Q → wpAny (model X.prog X.w) X.A (eval e X.env) (EP X pins σ Q) X.xe s
def PT (X : Cx) (e : Expr) (t : TT) : Prop :=
  ∀ (pins : List (Addr × Obj)) (s : Shared) (σ : St) (H : Hp) (Q : Bool → Hp → Prop), Inv X pins σ H s → t σ H Q → wpAny (model X.prog X.w) X.A (isTrue e X.env (eval e X.env)) (TP X pins σ Q) X.xe s
def PW (X : Cx) (e : Expr) (t : TT) : Prop :=
  ∀ (whole : Sem Value) (pins : List (Addr × Obj)) (s : Shared) (σ : St) (H : Hp) (Q : Bool → Hp → Prop), Inv X pins σ H s → t σ H Q → wpAny (model X.prog X.w) X.A (isTrue e X.env whole) (TP X pins σ Q) X.xe s
theorem PW.pt {X : Cx} {e : Expr} {t : TT} (h : PW X e t) : PT X e t := h _
def PA (X : Cx) (es : List Expr) (t : TA) : Prop :=
  ∀ (pos : Pos) (pins : List (Addr × Obj)) (s : Shared) (σ : St) (H : Hp) (Q : List V → Hp → Prop), Inv X pins σ H s → t σ H Q → wpAny (model X.prog X.w) X.A (spliced (backTo pos (starEach es X.env))) (AP X pins σ Q) X.xe s
def PS (X : Cx) (st : Stmt) (t : TS) : Prop :=
  ∀ (pins : List (Addr × Obj)) (s : Shared) (σ : St) (H : Hp) (D : Ends), Inv X pins σ H s → t D σ H → wpAny (model X.prog X.w) X.A (exec st X.env) (SP X pins D) X.xe s
def PSs (X : Cx) (st : List Stmt) (t : TS) : Prop :=
  ∀ (pins : List (Addr × Obj)) (s : Shared) (σ : St) (H : Hp) (D : Ends), Inv X pins σ H s → t D σ H → wpAny (model X.prog X.w) X.A (execs st X.env) (SP X pins D) X.xe s
theorem thn {α : Type} {t : Sem α} {Q Q' : α → Shared → Prop} {M : Model} {A : Around} {E : Value → Shared → Prop} {s : Shared} (h : wpAny M A t Q E s) (hQ : ∀ a s, Q a s → Q' a s) : wpAny M A t Q' E s := wpAny_mono h hQ fun _ _ x => x
end L2

namespace L2
open PySem PySem.Spec PyProof.Rows
section
variable {X : Cx}

inductive tVarI (i : Nat) (σ : St) (H : Hp) (Q : VK) : Prop
  | mk (v : _) (x0 : σ[i]? = some (some v)) (x1 : Q v H)
def tVar (i : Nat) : TE := fun σ H Q => tVarI i σ H Q
def tC (v : V) : TE := fun _ H Q => Q v H
theorem pe_var {i : Nat} {x : Str} {pos : Pos} (hN : X.N[i]? = some x) (hv : Vis X.env.scope x) (hd : (x == ("__debug__" : Str)) = false := by decide) (hcd : (x == ("__classdict__" : Str)) = false := by decide) : PE X (.Name x pos) (tVar i) := by
  intro pins s σ H Q I h
  obtain ⟨v, e, h⟩ := h
  obtain ⟨m, hn, hl⟩ := I.loc
  obtain ⟨u, r, l⟩ := hl i x v hN e hv
  have fin : EP X pins σ Q u s := ⟨v, H, I, r, h⟩
  rcases l with ⟨hk, hm⟩ | ⟨hk, c, hc, hcell⟩
  · exact wpAny_Name (wpAny_loadName_local I.ok.kind hk hn hm fin) hd
  · rcases hk with hk | hk
    · exact wpAny_Name (wpAny_loadName_cell I.ok.kind hk hc hcell fin) hd
    · exact wpAny_Name (wpAny_loadName_free I.ok.kind hk hc hcell fin hcd) hd
theorem pe_int {i j pos} : PE X (.Constant (.int i) j pos) (tC (.int i)) := fun _ _ _ H _ I h => wpAny_Constant_int ⟨.int i, H, I.tok _, ⟨_, rfl⟩, h⟩
theorem pe_bl {b j pos} : PE X (.Constant (.bool b) j pos) (tC (.bl b)) := fun _ _ _ H _ I h => Constant_bool ⟨.bl b, H, I, rfl, h⟩
theorem pe_non {j pos} : PE X (.Constant .none j pos) (tC .non) := fun _ _ _ H _ I h => Constant_none ⟨.non, H, I, rfl, h⟩
theorem pe_str {x j pos} : PE X (.Constant (.str x) j pos) (tC (.str x)) := fun _ _ _ H _ I h => Calls.Constant_str ⟨.str x, H, I.tok _, ⟨_, rfl⟩, h⟩

def Gl (X : Cx) (x : Str) : Prop := X.env.kindOf x = some .globalImplicit
theorem ld_glob {E : Value → Shared → Prop} {pins : List (Addr × Obj)} {s : Shared} {σ : St} {H : Hp} {x : Str} {u : Value} {pos : Pos} {Q : Value → Shared → Prop} (I : Inv X pins σ H s) (hg : Gl X x) (hm : X.mg x = some u) (h : Q u s)
    (hd : (x == ("__debug__" : Str)) = false := by decide) : wpAny (model X.prog X.w) X.A (eval (.Name x pos) X.env) Q E s :=
  Calls.Name_function_global I.ok.kind hg (Calls.loadGlobal_global (by rw [I.ok.glob]; exact I.mod.glob.keeps I.bk) hm h) hd
theorem ld_blt {E : Value → Shared → Prop} {pins : List (Addr × Obj)} {s : Shared} {σ : St} {H : Hp} {x : Str} {u : Value} {pos : Pos} {Q : Value → Shared → Prop} (I : Inv X pins σ H s) (hg : Gl X x) (hm : X.mg x = none) (hv : bootBuiltins x = some u) (h : Q u s)
    (hn : x ≠ "__name__" := by decide) (hd : (x == ("__debug__" : Str)) = false := by decide) : wpAny (model X.prog X.w) X.A (eval (.Name x pos) X.env) Q E s := by
  obtain ⟨mb, h1, h2⟩ := I.mod.blt
  exact Calls.Name_function_global I.ok.kind hg (Calls.loadGlobal_builtin (by rw [I.ok.glob]; exact I.mod.glob.keeps I.bk) hm (by rw [I.ok.blt]; exact h1.keeps I.bk) ((h2 x hn).trans hv) h) hd
theorem pe_glob {x : Str} {v : V} {u : Value} {pos : Pos} (hg : Gl X x) (hm : X.mg x = some u) (r : RelV v u) (hd : (x == ("__debug__" : Str)) = false := by decide) : PE X (.Name x pos) (tC v) :=
  fun _ _ _ H _ I h => ld_glob I hg hm ⟨v, H, I, r, h⟩ hd
theorem pe_bltn {x : Str} {v : V} {u : Value} {pos : Pos} (hg : Gl X x) (hm : X.mg x = none) (hv : bootBuiltins x = some u) (r : RelV v u) (hn : x ≠ "__name__" := by decide) (hd : (x == ("__debug__" : Str)) = false := by decide) : PE X (.Name x pos) (tC v) :=
  fun _ _ _ H _ I h => ld_blt I hg hm hv ⟨v, H, I, r, h⟩ hn hd

variable {a b : Expr} {ta tb : TE} {pos : Pos}
def PC (X : Cx) (op : CmpOp) (a b : Expr) (t : TE) : Prop :=
  ∀ (pins : List (Addr × Obj)) (s : Shared) (σ : St) (H : Hp) (Q : VK), Inv X pins σ H s → t σ H Q →
    wpAny (model X.prog X.w) X.A (eval a X.env) (fun v s₁ => wpAny (model X.prog X.w) X.A (eval b X.env) (fun u s₂ => wpAny (model X.prog X.w) X.A (compareOp op v u) (EP X pins σ Q) X.xe s₂) X.xe s₁) X.xe s
def tB (t : TE) : TT := fun σ H Q => t σ H fun x H1 => BlQ x H1 Q
theorem pe_cmp {op : CmpOp} {t : TE} (h : PC X op a b t) (h1 : behindInMarks op b = false := by first | exact nobehind _ (by decide) (by decide) | rfl) : PE X (.Compare a [op] [b] pos) t := fun pins s σ H Q I hw => wpAny_Compare1 (h pins s σ H Q I hw) h1
theorem pt_val {e : Expr} {t : TE} (h : PE X e t) (he : ∀ whole, isTrue e X.env whole = (do let v ← whole; standAt e.pos; holding [v] (truthy v)) := by intro _; rfl) : PT X e (tB t) := by
  intro pins s σ H Q I hw
  refine isTrue_plain (thn (h pins s σ H _ I hw) fun v s1 zq => zq.elim fun x H1 I1 r1 q1 => ?_) (he _)
  obtain ⟨d, rfl, q⟩ := q1
  cases r1
  exact wpAny_truthy_bool ⟨H1, I1, q⟩

variable {tA tB' : TT} {rest : List Expr}
def tAnd (t u : TT) : TT := fun σ H Q => t σ H fun c H1 => if c = true then u σ H1 Q else Q false H1
def tOr (t u : TT) : TT := fun σ H Q => t σ H fun c H1 => if c = true then Q true H1 else u σ H1 Q
def tNot (t : TT) : TT := fun σ H Q => t σ H fun c H1 => Q (!c) H1
theorem pw_and1 (ha : PT X a tA) : PW X (.BoolOp .And [a] pos) tA := by
  intro wh pins s σ H Q I h
  refine isTrue_and (thn (ha pins s σ H Q I h) fun c s1 e => ?_)
  cases c with
  | true => exact isTrue_and_nil e
  | false => exact e
theorem pw_or1 (ha : PT X a tA) : PW X (.BoolOp .Or [a] pos) tA := by
  intro wh pins s σ H Q I h
  refine isTrue_or (thn (ha pins s σ H Q I h) fun c s1 e => ?_)
  cases c with
  | false => exact isTrue_or_nil e
  | true => exact e
theorem pw_and (ha : PT X a tA) (hb : PW X (.BoolOp .And (b :: rest) pos) tB') : PW X (.BoolOp .And (a :: b :: rest) pos) (tAnd tA tB') := by
  intro wh pins s σ H Q I h
  refine isTrue_and (thn (ha pins s σ H _ I h) fun c s1 zq => zq.elim fun H1 I1 q1 => ?_)
  cases c with
  | true => exact hb wh pins s1 σ H1 Q I1 q1
  | false => exact ⟨H1, I1, q1⟩
theorem pw_or (ha : PT X a tA) (hb : PW X (.BoolOp .Or (b :: rest) pos) tB') : PW X (.BoolOp .Or (a :: b :: rest) pos) (tOr tA tB') := by
  intro wh pins s σ H Q I h
  refine isTrue_or (thn (ha pins s σ H _ I h) fun c s1 zq => zq.elim fun H1 I1 q1 => ?_)
  cases c with
  | true => exact ⟨H1, I1, q1⟩
  | false => exact hb wh pins s1 σ H1 Q I1 q1
theorem pt_not (ha : PT X a tA) : PT X (.UnaryOp .Not a pos) (tNot tA) := by
  intro pins s σ H Q I h
  exact isTrue_not (thn (ha pins s σ H (fun c H1 => Q (!c) H1) I h) fun c s1 zq => zq.elim fun H1 I1 q1 => ⟨H1, I1, q1⟩)
def tAndV (ta tb : TE) : TE := fun σ H Q => ta σ H fun x H1 => AndQ tb σ x H1 Q
def tOrV (ta tb : TE) : TE := fun σ H Q => ta σ H fun x H1 => OrQ tb σ x H1 Q
def tNotV (ta : TE) : TE := fun σ H Q => ta σ H fun x H1 => NotQ x H1 Q
theorem pe_one {op} {t : TE} (h : PE X a t) : PE X (.BoolOp op [a] pos) t := fun pins s σ H Q I hw => BoolOp_one (h pins s σ H Q I hw)
theorem pe_and (ha : PE X a ta) (hb : PE X (.BoolOp .And (b :: rest) pos) tb) : PE X (.BoolOp .And (a :: b :: rest) pos) (tAndV ta tb) := by
  intro pins s σ H Q I h
  refine BoolOp_and (thn (ha pins s σ H _ I h) fun v s1 zq => zq.elim fun x H1 I1 r1 q1 => ?_)
  obtain ⟨c, rfl, q1⟩ := q1
  cases r1
  refine wpAny_truthy_bool ?_
  cases c with
  | true => exact hb pins s1 σ H1 Q I1 q1
  | false => exact ⟨.bl false, H1, I1, rfl, q1⟩
theorem pe_or (ha : PE X a ta) (hb : PE X (.BoolOp .Or (b :: rest) pos) tb) : PE X (.BoolOp .Or (a :: b :: rest) pos) (tOrV ta tb) := by
  intro pins s σ H Q I h
  refine BoolOp_or (thn (ha pins s σ H _ I h) fun v s1 zq => zq.elim fun x H1 I1 r1 q1 => ?_)
  obtain ⟨c, rfl, q1⟩ := q1
  cases r1
  refine wpAny_truthy_bool ?_
  cases c with
  | false => exact hb pins s1 σ H1 Q I1 q1
  | true => exact ⟨.bl true, H1, I1, rfl, q1⟩
theorem pe_not (ha : PE X a ta) : PE X (.UnaryOp .Not a pos) (tNotV ta) := by
  intro pins s σ H Q I h
  refine UnaryOp_ (thn (ha pins s σ H _ I h) fun v s1 zq => zq.elim fun x H1 I1 r1 q1 => ?_)
  obtain ⟨c, rfl, q1⟩ := q1
  cases r1
  exact not_of (wpAny_truthy_bool ⟨.bl (!c), H1, I1, rfl, q1⟩)
end
end L2

namespace L2
open PySem PySem.Spec PyProof.Rows

def SqL (K : PySem.W.Frag) (H : Hp) (a : Addr) (xs : List V) : Prop :=
  Rd H a (.lst xs) ∨
    ∃ (o : Obj) (its : Array Value) (n : Nat), K.lookup a = some o ∧ o.cls = .type "list" ∧ o.dict = none ∧ o.data = .seq its n ∧ its.size ≤ sizeLine ∧ Vals xs its.toList
def SqT (K : PySem.W.Frag) (H : Hp) (a : Addr) (xs : List V) : Prop :=
  Rd H a (.tup xs) ∨
    ∃ (o : Obj) (its : Array Value) (n : Nat), K.lookup a = some o ∧ o.cls = .type "tuple" ∧ o.data = .seq its n ∧ its.size ≤ sizeLine ∧ Vals xs its.toList
def absV : Value → Option V
  | .none => some .non
  | .bool b => some (.bl b)
  | .int i _ => some (.int i)
  | .str x _ => some (.str x)
  | .bytes b _ => some (.byt b)
  | .float b _ => some (.flt b)
  | .ref a => some (.ref a)
  | .type n => some (.ty n)
  | _ => none
theorem RelV.abs {x : V} {u : Value} (r : RelV x u) : absV u = some x := by
  cases x with
  | non => cases r; rfl
  | bl _ => cases r; rfl
  | int _ => obtain ⟨t, rfl⟩ := r; rfl
  | str _ => obtain ⟨t, rfl⟩ := r; rfl
  | byt _ => obtain ⟨t, rfl⟩ := r; rfl
  | flt _ => obtain ⟨t, rfl⟩ := r; rfl
  | ref _ => cases r; rfl
  | ty _ => cases r; rfl
theorem RelV.inj {x y : V} {u : Value} (r : RelV x u) (q : RelV y u) : x = y := Option.some.inj (r.abs.symm.trans q.abs)
theorem Vals.inj {xs ys : List V} {us : List Value} (r : Vals xs us) (s : Vals ys us) : xs = ys := by
  induction r generalizing ys with
  | nil => exact (List.eq_nil_of_length_eq_zero (Paired.length s)).symm
  | cons a _ ih =>
    cases ys with
    | nil => exact absurd (Paired.length s) (Nat.succ_ne_zero _).symm
    | cons y yr =>
      obtain ⟨u, ur, e, h, t⟩ := Vals.inv s
      injection e with e1 e2
      subst e1 e2
      rw [a.inj h, ih t]
section
variable {X : Cx} {pins : List (Addr × Obj)} {σ : St} {H : Hp} {s : Shared} {a : Addr} {xs ys : List V}
theorem SqL.of {K : PySem.W.Frag} (h : H a = some (.lst xs)) : SqL K H a xs := .inl (.inl h)
theorem SqT.of {K : PySem.W.Frag} (h : H a = some (.tup xs)) : SqT K H a xs := .inl (.inl h)
theorem Inv.list (I : Inv X pins σ H s) (h : SqL X.K H a xs) : ∃ its : List Value, Vals xs its ∧ PlainL s.heap a its.toArray ∧ xs.length ≤ sizeLine := by
  rcases h with h | ⟨o, its, n, hk, hc, hd, hs, hz, r⟩
  · obtain ⟨z, its, n, r, e⟩ := h.ok I.hok
    exact ⟨its, r, ⟨_, n, e, rfl, rfl, rfl⟩, z⟩
  · refine ⟨its.toList, r, ⟨o, n, I.kIn a o hk, hc, hd, by simpa using hs⟩, ?_⟩
    have e := r.length
    simp only [Array.length_toList] at e
    lia
theorem Inv.tuple (I : Inv X pins σ H s) (h : SqT X.K H a xs) : ∃ its : List Value, Vals xs its ∧ IsTup s.heap a its.toArray ∧ xs.length ≤ sizeLine := by
  rcases h with h | ⟨o, its, n, hk, hc, hs, hz, r⟩
  · obtain ⟨z, its, r, p⟩ := h.ok I.hok
    exact ⟨its, r, p, z⟩
  · refine ⟨its.toList, r, ⟨o, I.kIn a o hk, hc, n, by simpa using hs⟩, ?_⟩
    have e := r.length
    simp only [Array.length_toList] at e
    lia
theorem Inv.list_inj (I : Inv X pins σ H s) (h : SqL X.K H a xs) (h' : SqL X.K H a ys) : xs = ys := by
  obtain ⟨its, r, ⟨o, n, e, _, _, d⟩, _⟩ := I.list h
  obtain ⟨its', r', ⟨o', n', e', _, _, d'⟩, _⟩ := I.list h'
  rw [e] at e'; cases e'
  rw [d] at d'
  injection d' with d1 _
  have : its = its' := by simpa using congrArg Array.toList d1
  subst this
  exact r.inj r'
end

abbrev Cx.wish (X : Cx) (E : Value → Shared → Prop) : Cx := { X with xe := E }
abbrev Cx.nox (X : Cx) : Cx := X.wish fun _ _ => False
theorem Cx.Ok.wish {X : Cx} (ok : X.Ok) (E : Value → Shared → Prop) : (X.wish E).Ok :=
  ⟨ok.mod, ok.kind, ok.glob, ok.blt, ok.above, ok.inj, ok.has, ok.cab, ok.hd, ok.frames, ok.stk, ok.exf, ok.bs, ok.bsz, ok.noex, ok.exfs, ok.funs, ok.frf⟩
theorem Cx.Ok.unwish {X : Cx} {E : Value → Shared → Prop} (ok : (X.wish E).Ok) : X.Ok :=
  ⟨ok.mod, ok.kind, ok.glob, ok.blt, ok.above, ok.inj, ok.has, ok.cab, ok.hd, ok.frames, ok.stk, ok.exf, ok.bs, ok.bsz, ok.noex, ok.exfs, ok.funs, ok.frf⟩
section
variable {X : Cx} {pins : List (Addr × Obj)} {σ : St} {H : Hp} {s : Shared} {E : Value → Shared → Prop}
theorem Inv.wish (I : Inv X pins σ H s) (E : Value → Shared → Prop) : Inv (X.wish E) pins σ H s := ⟨I.ok.wish E, I.os, I.bare, I.base, I.loc, I.cell, I.free, I.freeC, I.pin, I.hok, I.len⟩
theorem Inv.unwish (I : Inv (X.wish E) pins σ H s) : Inv X pins σ H s := ⟨I.ok.unwish, I.os, I.bare, I.base, I.loc, I.cell, I.free, I.freeC, I.pin, I.hok, I.len⟩
theorem SP.unwish {D : Ends} {f : Flow} {s' : Shared} (h : SP (X.wish E) pins D f s') : SP X pins D f s' := by
  cases f with
  | next => obtain ⟨σ', H', I, q⟩ := h; exact ⟨σ', H', I.unwish, q⟩
  | brk => obtain ⟨σ', H', I, q⟩ := h; exact ⟨σ', H', I.unwish, q⟩
  | cont => obtain ⟨σ', H', I, q⟩ := h; exact ⟨σ', H', I.unwish, q⟩
  | ret u => obtain ⟨v, σ', H', I, r, q⟩ := h; exact ⟨v, σ', H', I.unwish, r, q⟩
theorem PSs.nox {st : List Stmt} {t : TS} (h : PSs X.nox st t) : PSs X st t := fun pins s σ H D I hw =>
  wpAny_mono (h pins s σ H D (I.wish _) hw) (fun _ _ q => q.unwish) fun _ _ z => False.elim z
end

section
variable {X : Cx} {st : Stmt} {rest : List Stmt} {t u : TS} {e : Expr} {te : TE} {pos : Pos}
def tNext : TS := fun D σ H => D.nx σ H
def tSeq (t u : TS) : TS := fun D σ H => t { D with nx := u D } σ H
theorem pss_nil : PSs X [] tNext := fun _ _ σ H _ I h => wpAny_execs_nil ⟨σ, H, I, h⟩
theorem pss_cons (h1 : PS X st t) (h2 : PSs X rest u) : PSs X (st :: rest) (tSeq t u) := by
  intro pins s σ H D I h
  refine wpAny_execs_cons (thn (h1 pins s σ H { D with nx := u D } I h) fun f s1 q => ?_)
  cases f with
  | next =>
    obtain ⟨σ', H', I', q⟩ := q
    exact h2 pins s1 σ' H' D I' q
  | ret v => exact q
  | brk => exact q
  | cont => exact q
theorem pss_one (h1 : PS X st t) : PSs X [st] t := by
  intro pins s σ H D I h
  refine wpAny_execs_cons (thn (h1 pins s σ H D I h) fun f s1 q => ?_)
  cases f with
  | next => exact wpAny_execs_nil q
  | ret v => exact q
  | brk => exact q
  | cont => exact q
theorem Inv.quiet {pins : List (Addr × Obj)} {σ : St} {H : Hp} {s : Shared} (I : Inv X pins σ H s) : interactive X.env = false := by simp [interactive, I.ok.kind]
def tDrop (te : TE) : TS := fun D σ H => te σ H fun _ H1 => D.nx σ H1
theorem ps_expr (he : PE X e te) (hs : swapsWith e none pos.line X.env = pure false := by rfl) : PS X (.Expr e pos) (tDrop te) := by
  intro pins s σ H D I h
  exact wpAny_Expr_any (thn (he pins s σ H _ I h) fun v s1 zq => zq.elim fun x H1 I1 r1 q1 => ⟨σ, H1, I1, q1⟩) I.quiet hs
def tRet (te : TE) : TS := fun D σ H => te σ H D.rt
theorem ps_ret (he : PE X e te) : PS X (.Return (some e) pos) (tRet te) := by
  intro pins s σ H D I h
  exact wpAny_Return_some (thn (he pins s σ H _ I h) fun v s1 zq => zq.elim fun x H1 I1 r1 q1 => ⟨x, σ, H1, I1, r1, q1⟩)
def tIfS (c : TT) (t u : TS) : TS := fun D σ H => c σ H fun b H1 => if b = true then t D σ H1 else u D σ H1
theorem ps_if {c : Expr} {a b : List Stmt} {tc : TT} (hc : PT X c tc) (ha : PSs X a t) (hb : PSs X b u) : PS X (.If c a b pos) (tIfS tc t u) := by
  intro pins s σ H D I h
  refine wpAny_If (thn (hc pins s σ H _ I h) fun d s1 zq => zq.elim fun H1 I1 q1 => ?_)
  cases d with
  | true => exact ha pins s1 σ H1 D I1 q1
  | false => exact hb pins s1 σ H1 D I1 q1
def tNever : TS := fun _ _ _ => False
theorem ps_never : PS X st tNever := fun _ _ _ _ _ _ h => h.elim
end

abbrev TG := V → St → Hp → (St → Hp → Prop) → Prop
abbrev TGs := List V → St → Hp → (St → Hp → Prop) → Prop
def PG (X : Cx) (target : Expr) (t : TG) : Prop :=
  ∀ (pins : List (Addr × Obj)) (s : Shared) (σ : St) (H : Hp) (v : V) (u : Value) (Q : St → Hp → Prop), Inv X pins σ H s → RelV v u → t v σ H Q →
    wpAny (model X.prog X.w) X.A (assign target X.env u) (fun _ s' => ∃ σ' H', Inv X pins σ' H' s' ∧ Q σ' H') X.xe s
def PGs (X : Cx) (ts : List Expr) (t : TGs) : Prop :=
  ∀ (pins : List (Addr × Obj)) (s : Shared) (σ : St) (H : Hp) (vs : List V) (us : List Value) (Q : St → Hp → Prop), Inv X pins σ H s → Vals vs us → t vs σ H Q →
    wpAny (model X.prog X.w) X.A (assignInOrder ((assignEach ts X.env).map (·.2)) us) (fun _ s' => ∃ σ' H', Inv X pins σ' H' s' ∧ Q σ' H') X.xe s
abbrev TSet := V → V → V → Hp → (Hp → Prop) → Prop
def PSet (X : Cx) (t : TSet) : Prop :=
  ∀ (pins : List (Addr × Obj)) (s : Shared) (σ : St) (H : Hp) (o i v : V) (ov iv u : Value) (Q : Hp → Prop), Inv X pins σ H s → RelV o ov → RelV i iv → RelV v u → t o i v H Q →
    wpAny (model X.prog X.w) X.A (setItem ov iv u) (fun _ s' => ∃ H', Inv X pins σ H' s' ∧ Q H') X.xe s
section
variable {X : Cx} {pos : Pos}
def gName (i : Nat) : TG := fun v σ H Q => Q (σ.set i (some v)) H
theorem pg_name {i : Nat} {x : Str} (hN : X.N.Nodup) (hi : X.N[i]? = some x) (hx : Loc X.env.scope x) (hf : X.fn x = true ∨ X.env.scope.names.lookup x = some .local := by first | exact .inl rfl | exact .inr rfl | assumption) : PG X (.Name x pos) (gName i) := by
  intro pins s σ H v u Q I r h
  exact wpAny_assign_Name (store_ok I hN hi hx r (fun s' I' => ⟨_, H, I', h⟩) hf)
def gNil : TGs := fun vs σ H Q => vs = [] ∧ Q σ H
inductive gConsI (t : TG) (u : TGs) (vs : List V) (σ : St) (H : Hp) (Q : (St → Hp → Prop)) : Prop
  | mk (v r : _) (x0 : vs = v :: r) (x1 : t v σ H fun σ' H' => u r σ' H' Q)
def gCons (t : TG) (u : TGs) : TGs := fun vs σ H Q => gConsI t u vs σ H Q
theorem pgs_nil : PGs X [] gNil := by
  intro pins s σ H vs us Q I r h
  obtain ⟨e, h⟩ := h
  subst e
  cases r
  exact assignInOrder_nil ⟨σ, H, I, h⟩
theorem pgs_cons {e : Expr} {es : List Expr} {t : TG} {u : TGs} (h1 : PG X e t) (h2 : PGs X es u)
    (hs : (assignEach (e :: es) X.env).map (·.2) = assign e X.env :: (assignEach es X.env).map (·.2) := by rfl) : PGs X (e :: es) (gCons t u) := by
  intro pins s σ H vs us Q I r h
  obtain ⟨v, vr, e1, h⟩ := h
  subst e1
  cases r with
  | cons r rr =>
    rw [hs]
    refine assignInOrder_cons (thn (h1 pins s σ H _ _ _ I r h) fun _ s1 ⟨σ1, H1, I1, q1⟩ => ?_)
    exact h2 pins s1 σ1 H1 _ _ Q I1 rr q1
inductive gTupI (K : PySem.W.Frag) (n : Nat) (t : TGs) (v : V) (σ : St) (H : Hp) (Q : (St → Hp → Prop)) : Prop
  | mk (a xs : _) (x0 : v = .ref a) (x1 : SqT K H a xs) (x2 : xs.length = n) (x3 : t xs σ H Q)
def gTup (K : PySem.W.Frag) (n : Nat) (t : TGs) : TG := fun v σ H Q => gTupI K n t v σ H Q
theorem pg_tup {es : List Expr} {k : Nat} {t : TGs} {n : Nat} (hc : X.calm = true) (h : PGs X es t)
    (hn : (assignEach es X.env).length = n := by rfl) (hst : (assignEach es X.env).findIdx? (·.1) = none := by rfl) : PG X (.Tuple es k pos) (gTup X.K n t) := by
  intro pins s σ H v u Q I r hw
  obtain ⟨a, xs, e1, hq, hl, hw⟩ := hw
  subst e1
  cases r
  obtain ⟨its, rv, ht, hz⟩ := I.tuple hq
  refine assign_Tuple_tuple (I.ok.hd hc) ht (by simp [hn, ← hl, rv.length]) hst fun h' hx => ?_
  have I1 : Inv X pins σ H { s with heap := h' } := I.kept (t' := s.toks) fun b o e => hx b o (Nat.ne_of_lt (Heap.lt_size e)) e
  exact h pins _ σ H xs _ Q I1 (by simpa using rv) hw
def gSub (to ti : TE) (t : TSet) : TG := fun v σ H Q => to σ H fun o H1 => ti σ H1 fun i H2 => t o i v H2 fun H3 => Q σ H3
theorem pg_sub {o i : Expr} {to ti : TE} {t : TSet} (ho : PE X o to) (hi : PE X i ti) (hs : PSet X t)
    (ha : ∀ v, assign (.Subscript o i pos) X.env v = (do
      let ov ← holding [v] (eval o X.env)
      let iv ← holding [v, ov] (eval i X.env)
      standAt pos
      holding [v, ov, iv] (setItem ov iv v)
      release [v, ov, iv] []) := by intro _; rfl) : PG X (.Subscript o i pos) (gSub to ti t) := by
  intro pins s σ H v u Q I r h
  rw [ha]
  refine wpAny_bind (wpAny_holding (thn (ho pins s σ H _ I h) fun ov s1 zq => zq.elim fun x H1 I1 r1 q1 => ?_))
  refine wpAny_bind (wpAny_holding (thn (hi pins s1 σ H1 _ I1 q1) fun iv s2 zq => zq.elim fun y H2 I2 r2 q2 => ?_))
  refine wpAny_bind (wpAny_standAt (wpAny_bind (wpAny_holding (thn (hs pins s2 σ H2 x y v ov iv u _ I2 r1 r2 r q2) fun _ s3 ⟨H3, I3, q3⟩ => ?_))))
  exact wpAny_release ⟨σ, H3, I3, q3⟩
def tAsg (te : TE) (g : TG) : TS := fun D σ H => te σ H fun x H1 => g x σ H1 D.nx
theorem ps_asg {tg e : Expr} {te : TE} {g : TG} (he : PE X e te) (hg : PG X tg g) (hs : swapsWithSole [tg] e pos.line X.env = pure false := by rfl) (hw : swappedStores [tg] e X.env = pure none := by rfl)
    (h1 : (assignEach [tg] X.env).map (·.2) = [assign tg X.env] := by rfl) : PS X (.Assign [tg] e pos) (tAsg te g) := by
  intro pins s σ H D I h
  refine wpAny_Assign_stores (thn (he pins s σ H _ I h) fun v s1 zq => zq.elim fun x H1 I1 r1 q1 => ?_) hs hw
  rw [h1]
  exact thn (hg pins s1 σ H1 x v _ I1 r1 q1) fun _ s2 ⟨σ', H', I', q'⟩ => ⟨σ', H', I', q'⟩
theorem ps_set {i : Nat} {x : Str} {e : Expr} {te : TE} {pos' : Pos} (hN : X.N.Nodup) (hi : X.N[i]? = some x) (hx : Loc X.env.scope x) (he : PE X e te) (hs : swapsWith e (some (.Name x pos')) pos.line X.env = pure false := by rfl) (hf : X.fn x = true ∨ X.env.scope.names.lookup x = some .local := by first | exact .inl rfl | exact .inr rfl | assumption) :
    PS X (.Assign [.Name x pos'] e pos) (tAsg te (gName i)) := by
  intro pins s σ H D I h
  refine wpAny_Assign_Name (thn (he pins s σ H _ I h) fun v s1 zq => zq.elim fun y H1 I1 r1 q1 => ?_) hs
  exact store_ok I1 hN hi hx r1 (fun s2 I2 => ⟨_, H1, I2, q1⟩) hf
end

section
variable {X : Cx} {pos : Pos}
inductive tWhileI (c : TT) (tb : TS) (D : Ends) (σ : St) (H : Hp) : Prop
  | mk (W : Nat → St → Hp → Prop) (x0 : (∃ m, W m σ H)) (x1 : ∀ m σ H, W m σ H → c σ H fun b H1 => if b = true then ∃ N : St → Hp → Prop, (∀ σ' H', N σ' H' → ∃ m', m' < m ∧ W m' σ' H') ∧ tb { D with nx := N, ct := N, bk := D.nx } σ H1 else D.nx σ H1)
def tWhile (c : TT) (tb : TS) : TS := fun D σ H => tWhileI c tb D σ H
theorem ps_while {c : Expr} {body : List Stmt} {tc : TT} {tb : TS} (hp : PassesOwn (model X.prog X.w) X.A X.env X.xe) (hc : PT X c tc) (hb : PSs X body tb) : PS X (.While c body [] pos) (tWhile tc tb) := by
  intro pins s σ H D I h
  obtain ⟨W, ⟨m0, w0⟩, turn⟩ := h
  refine wpAny_While (codeAny_whileLoop (fun n s' => ∃ σ' H', Inv X pins σ' H' s' ∧ W n σ' H') ?_ m0 ⟨σ, H, I, w0⟩)
  rintro n s1 ⟨σ1, H1, I1, w1⟩
  refine wpAny_passesOwn hp (thn (hc pins s1 σ1 H1 _ I1 (turn n σ1 H1 w1)) fun b s2 zq => zq.elim fun H2 I2 q2 => ?_)
  cases b with
  | true =>
    obtain ⟨N, hN, q2⟩ := q2
    rw [if_pos rfl]
    refine wpAny_passesOwn hp (thn (hb pins s2 σ1 H2 _ I2 q2) fun f s3 q3 => ?_)
    cases f with
    | next =>
      obtain ⟨σ3, H3, I3, n3⟩ := q3
      obtain ⟨m', hm, w3⟩ := hN σ3 H3 n3
      exact ⟨m', hm, σ3, H3, I3, w3⟩
    | cont =>
      obtain ⟨σ3, H3, I3, n3⟩ := q3
      obtain ⟨m', hm, w3⟩ := hN σ3 H3 n3
      exact ⟨m', hm, σ3, H3, I3, w3⟩
    | brk => exact q3
    | ret v => exact q3
  | false =>
    rw [if_neg Bool.false_ne_true]
    exact wpAny_execs_nil ⟨σ1, H2, I2, q2⟩
end

structure It where
  go : Nat → Hp → Prop
  yld : Nat → Hp → V → Hp → Prop
  stop : Nat → Hp → Prop
def FpOk (X : Cx) (pins : List (Addr × Obj)) (H : Hp) (b : Addr) : Prop :=
  H b = none ∧ b ≠ X.env.locals ∧ b ∉ X.fs ∧ (b ∈ X.ex ∨ X.s₀.heap.objs.size ≤ b) ∧ (∀ x c, X.env.cells.lookup x = some c → c ≠ b) ∧ ∀ p ∈ X.pn ++ pins, p.1 ≠ b
theorem Inv.fpOk {X : Cx} {pins : List (Addr × Obj)} {σ : St} {H H' : Hp} {s : Shared} {b : Addr} (I : Inv X pins σ H s) (hb : s.heap.objs.size ≤ b) (hn : H' b = none) : FpOk X pins H' b := by
  refine ⟨hn, Nat.ne_of_gt (Nat.lt_of_lt_of_le I.lt hb), I.nofs hb, .inr (Nat.le_trans I.sz hb), fun x c e z => ?_, fun p hp z => ?_⟩
  · obtain ⟨v, q⟩ := I.cell x c e
    exact absurd (Nat.lt_of_lt_of_le q.lt (by rw [z]; exact hb)) (Nat.lt_irrefl _)
  · exact absurd (Nat.lt_of_lt_of_le (Heap.lt_size (I.pin p hp).1) (by rw [z]; exact hb)) (Nat.lt_irrefl _)
structure Turn (P : Program) (w : World) (K : PySem.W.Frag) (tg : Expr) (J : It) (fp : List Addr) (it : Addr) (tn : Nat → Heap → Prop) : Prop where
  mem : it ∈ fp
  obj : ∀ i h, tn i h → ∀ b ∈ fp, ∃ o, h.get? b = some o ∧ ∀ v, o.data ≠ .cell v
  keep : ∀ i h h', tn i h → (∀ b ∈ fp, ∀ o, h.get? b = some o → h'.get? b = some o) → tn i h'
  item : ∀ (X : Cx), X.prog = P → X.w = w → X.K = K → X.calm = true → ∀ (i : Nat) (pins : List (Addr × Obj)) (s : Shared) (σ : St) (H : Hp) (E : Value → Shared → Prop), Inv X pins σ H s → (∀ b ∈ fp, FpOk X pins H b) → tn i s.heap → J.go i H →
    wpAny (model P w) X.A (pyNext (.ref it)) (fun r s1 => ∃ u, r = some u ∧
      wpAny (model P w) X.A (letOwnedTupleGo tg (.ref it) u) (fun _ s2 => ∃ x H', Inv X pins σ H' s2 ∧ RelV x u ∧ J.yld i H x H' ∧ tn (i + 1) s2.heap ∧ ∀ b ∈ fp, H' b = none) E s1) E s
  done : ∀ (X : Cx), X.prog = P → X.w = w → X.K = K → X.calm = true → ∀ (i : Nat) (pins : List (Addr × Obj)) (s : Shared) (σ : St) (H : Hp) (E : Value → Shared → Prop), Inv X pins σ H s → (∀ b ∈ fp, FpOk X pins H b) → tn i s.heap → J.stop i H →
    wpAny (model P w) X.A (pyNext (.ref it)) (fun r s1 => r = none ∧ Inv X pins σ H s1) E s
  self : ∀ (A : Around) (i : Nat) (s : Shared) (Q : Value → Shared → Prop) (E : Value → Shared → Prop), tn i s.heap → Q (.ref it) s → wpAny (model P w) A (pyIter (.ref it)) Q E s
abbrev TI := St → Hp → (It → Hp → Prop) → Prop
inductive PIE (X : Cx) (pins : List (Addr × Obj)) (σ : St) (tg : Expr) (R : It → Hp → Prop) (itv : Value) (s2 : Shared) : Prop
  | mk (it : Addr) (fp : List Addr) (tn : Nat → Heap → Prop) (J : It) (H' : Hp) (e : itv = .ref it) (I : Inv X pins σ H' s2) (t : Turn X.prog X.w X.K tg J fp it tn) (z : tn 0 s2.heap) (f : ∀ b ∈ fp, FpOk X pins H' b) (q : R J H')
def PI (X : Cx) (tg iter : Expr) (wi : TI) : Prop :=
  ∀ (pins : List (Addr × Obj)) (s : Shared) (σ : St) (H : Hp) (R : It → Hp → Prop), Inv X pins σ H s → wi σ H R →
    wpAny (model X.prog X.w) X.A (eval iter X.env) (fun v s1 => wpAny (model X.prog X.w) X.A (pyIter v) (PIE X pins σ tg R) X.xe s1) X.xe s

theorem go_of {M : Model} {A : Around} {E : Value → Shared → Prop} {s : Shared} {tg : Expr} {it : Addr} {u : Value} {o : Obj} {n : String} {vs : Array Value} {Q : Unit → Shared → Prop} (ho : s.heap.get? it = some o) (hc : o.cls = .type n) (hd : o.data = .fields vs)
    (hn : ["enumerate", "zip", "dict_itemiterator", "dict_reverseitemiterator", "odict_iterator", "itertools.zip_longest", "itertools.pairwise"].contains n = false) (hQ : Q () s) : wpAny M A (letOwnedTupleGo tg (.ref it) u) Q E s := by
  unfold letOwnedTupleGo
  cases tg <;> first
    | exact wpAny_pure hQ
    | (cases u <;> first
        | exact wpAny_pure hQ
        | (refine wpAny_bind (wpAny_load ho ?_)
           rw [hc, hd]
           show wpAny M A (if (["enumerate", "zip", "dict_itemiterator", "dict_reverseitemiterator", "odict_iterator", "itertools.zip_longest", "itertools.pairwise"].contains n && vs[0]? == some (rawInt _)) = true then _ else _) Q E s
           rw [if_neg (by intro h; rw [hn, Bool.false_and] at h; cases h)]
           exact wpAny_pure hQ))

def Itl (K : PySem.W.Frag) (a : Addr) : It :=
  ⟨fun i H => ∃ xs x, SqL K H a xs ∧ xs[i]? = some x, fun i H x H' => H' = H ∧ ∀ xs, SqL K H a xs → xs[i]? = some x, fun i H => ∃ xs, SqL K H a xs ∧ xs.length ≤ i⟩
def Itr (lo : Int) (n : Nat) : It := ⟨fun i _ => i < n, fun i H x H' => H' = H ∧ x = .int (lo + i), fun i _ => n ≤ i⟩
theorem turn_list {P : Program} {w : World} {K : PySem.W.Frag} {tg : Expr} (a it : Addr) : Turn P w K tg (Itl K a) [it] it (fun i h => h.IsListIter it a i) where
  mem := by simp
  obj := fun i h st b hb => by
    have e : b = it := by simpa using hb
    subst e
    obtain ⟨o, e, c, d⟩ := st
    exact ⟨o, e, fun v z => by rw [d] at z; cases z⟩
  keep := fun i h h' st k => st.at fun o e => k it (by simp) o e
  item := by
    intro X hP hw hK hc i pins s σ H E I hf st hg
    subst hP hw hK
    obtain ⟨xs, x, hq, hx⟩ := hg
    obtain ⟨its, rv, p, hz⟩ := I.list hq
    obtain ⟨u, hu, ru⟩ := rv.get hx
    obtain ⟨f0, f1, f2, f3, f4, f5⟩ := hf it (by simp)
    refine wpAny_pyNext_list_item st p.isList (x := u) (by simpa using hu) fun h' st' sb => ?_
    have I1 : Inv X pins σ H { s with heap := h' } := I.turned (t' := s.toks) (fun b o hb e => (sb.2 b hb).trans e) f0 f1 f3 f4 f5
    obtain ⟨o, e, c, d⟩ := id st'
    exact ⟨u, rfl, go_of (s := { s with heap := h' }) e c d (by decide) ⟨x, H, I1, ru, ⟨rfl, fun ys hy => by rw [I.list_inj hy hq]; exact hx⟩, st', fun b hb => (hf b hb).1⟩⟩
  done := by
    intro X hP hw hK hc i pins s σ H E I hf st hg
    subst hP hw hK
    obtain ⟨xs, hq, hx⟩ := hg
    obtain ⟨its, rv, p, hz⟩ := I.list hq
    obtain ⟨f0, f1, f2, f3, f4, f5⟩ := hf it (by simp)
    have hl := rv.length
    exact wpAny_pyNext_list_end (I.ok.hd hc) st p.isList (by simp; lia) fun h' eb => ⟨rfl, I.turned (t' := s.toks) (fun b o hb e => eb b o hb e) f0 f1 f3 f4 f5⟩
  self := fun _ _ _ _ _ st h => wpAny_pyIter_listiter st h
theorem turn_range {P : Program} {w : World} {K : PySem.W.Frag} {tg : Expr} (it : Addr) (lo : Int) (n : Nat) : Turn P w K tg (Itr lo n) [it] it (fun i h => IsRangeIter h it (lo + (i : Nat) * 1) ((n : Int) - (i : Nat)) 1) where
  mem := by simp
  obj := fun i h st b hb => by
    have e : b = it := by simpa using hb
    subst e
    exact ⟨_, st, fun v z => by
      have z' : Data.fields _ = Data.cell v := z
      cases z'⟩
  keep := fun i h h' st k => k it (by simp) _ st
  item := by
    intro X hP hw hK hc i pins s σ H E I hf st hg
    subst hP hw hK
    obtain ⟨f0, f1, f2, f3, f4, f5⟩ := hf it (by simp)
    have W := Walks.range (prog := X.prog) (w := X.w) (I.ok.hd hc) it lo 1 n
    refine W.item i s _ _ hg st fun v h' tk hv st' kk => ?_
    obtain ⟨t, rfl⟩ := hv
    have I1 : Inv X pins σ H { s with heap := h', toks := tk } := I.turned (fun b o hb e => kk b o (by simpa using hb) e) f0 f1 f3 f4 f5
    refine ⟨_, rfl, go_of (s := { s with heap := h', toks := tk }) (n := "range_iterator") st' rfl rfl (by decide) ⟨.int (lo + i), H, I1, ⟨t, ?_⟩, ⟨rfl, rfl⟩, st', fun b hb => (hf b hb).1⟩⟩
    rw [Int.mul_one]
  done := by
    intro X hP hw hK hc i pins s σ H E I hf st hg
    subst hP hw hK
    obtain ⟨f0, f1, f2, f3, f4, f5⟩ := hf it (by simp)
    exact wpAny_pyNext_range_end (I.ok.hd hc) st (by have : n ≤ i := hg; lia) fun h' eb => ⟨rfl, I.turned (t' := s.toks) (fun b o hb e => eb b o hb e) f0 f1 f3 f4 f5⟩
  self := fun _ _ _ _ _ st h => wpAny_pyIter_rangeiter st h
end L2

namespace L2
open PySem PySem.Spec PyProof.Rows
section
variable {X : Cx} {tg : Expr}
def iList (K : PySem.W.Frag) (tl : TE) : TI := fun σ H R => tl σ H fun x H1 => ∃ a, x = .ref a ∧ (∃ xs, SqL K H1 a xs) ∧ R (Itl K a) H1
theorem pi_list {l : Expr} {tl : TE} (hl : PE X l tl) : PI X tg l (iList X.K tl) := by
  intro pins s σ H R I h
  refine thn (hl pins s σ H _ I h) fun v s1 zq => zq.elim fun x H1 I1 r1 q1 => ?_
  obtain ⟨a, e, ⟨xs, hq⟩, q⟩ := q1
  subst e
  cases r1
  obtain ⟨its, rv, p, hz⟩ := I1.list hq
  refine wpAny_pyIter_list p.isList ?_
  refine ⟨s1.heap.objs.size, [s1.heap.objs.size], _, _, H1, rfl, I1.kept (t' := s1.toks) fun b o e => Heap.get?_push_of_some _ e, turn_list a _, ⟨_, Heap.get?_push_size _ rfl, rfl, rfl⟩, fun b hb => ?_, q⟩
  have e : b = s1.heap.objs.size := by simpa using hb
  subst e
  exact I1.fpOk (Nat.le_refl _) (I1.hok.fresh (Nat.le_refl _))
theorem range_it {pins : List (Addr × Obj)} {σ : St} {H : Hp} {s : Shared} {R : It → Hp → Prop} {E : Value → Shared → Prop} {lo hi : Int} {t u v : Tok} {tk : Nat} (I : Inv X pins σ H s) (h1 : -(2 ^ 62) ≤ lo) (h2 : lo < 2 ^ 62) (h3 : -(2 ^ 62) ≤ hi) (h4 : hi < 2 ^ 62)
    (q : R (Itr lo (hi - lo).toNat) H) : wpAny (model X.prog X.w) X.A (pyIter (.ref s.heap.objs.size)) (PIE X pins σ tg R) E { s with heap := s.heap.push { cls := .type "range", data := .fields #[.int lo t, .int hi u, .int 1 v] }, toks := tk } := by
  refine wpAny_pyIter_range (IsRange.new ..) (small_one h1 h2 h3 h4) ?_
  have I1 : Inv X pins σ H { s with heap := s.heap.push { cls := .type "range", data := .fields #[.int lo t, .int hi u, .int 1 v] }, toks := tk } := I.kept fun b o e => Heap.get?_push_of_some _ e
  refine ⟨(s.heap.push { cls := .type "range", data := .fields #[.int lo t, .int hi u, .int 1 v] }).objs.size, [(s.heap.push { cls := .type "range", data := .fields #[.int lo t, .int hi u, .int 1 v] }).objs.size], _, _, H, rfl,
    I1.kept (t' := tk) fun b o e => Heap.get?_push_of_some _ e, turn_range _ lo (hi - lo).toNat, ?_, fun b hb => ?_, q⟩
  · have e1 : lo + ((0 : Nat) : Int) * 1 = lo := by simp
    have e2 : (((hi - lo).toNat : Nat) : Int) - ((0 : Nat) : Int) = Builtin.Range.rangeSize lo hi 1 := by rw [rangeSize_one]; split <;> lia
    show IsRangeIter _ _ (lo + ((0 : Nat) : Int) * 1) ((((hi - lo).toNat : Nat) : Int) - ((0 : Nat) : Int)) 1
    rw [e1, e2]
    exact Heap.get?_push_size _ rfl
  · have e : b = (s.heap.push { cls := .type "range", data := .fields #[.int lo t, .int hi u, .int 1 v] }).objs.size := by simpa using hb
    subst e
    exact I1.fpOk (Nat.le_refl _) (I1.hok.fresh (Nat.le_refl _))
def iRng1 (ta : TA) : TI := fun σ H R => ta σ H fun vs H1 => ∃ j : Int, vs = [.int j] ∧ -(2 ^ 62) ≤ j ∧ j < 2 ^ 62 ∧ R (Itr 0 j.toNat) H1
theorem pi_range1 {a : Expr} {ta : TA} {p pos : Pos} (hg : Gl X "range") (hm : X.mg "range" = none) (ha : PA X [a] ta) (hs : starEach [a] X.env = [(false, eval a X.env)] := by rfl) : PI X tg (.Call (.Name "range" p) [a] [] pos) (iRng1 ta) := by
  intro pins s σ H R I h
  refine Call_ (ld_blt I hg hm boot_range (PyProof.Rows.callWith_type1 (thn (ha pos pins s σ H _ I h) fun us s1 zq => zq.elim fun vs H1 I1 r1 q1 => ?_) hs rfl))
  obtain ⟨j, e, q1, q2, q⟩ := q1
  subst e
  cases r1 with
  | cons r rr =>
    cases rr
    obtain ⟨t, rfl⟩ := r
    exact call_range_1 (range_it I1 (by lia) (by lia) q1 q2 (by simpa using q))
structure Go (D : Ends) (P : St → Hp → Prop) (e : Ends) : Prop where
  n : ∀ {σ H}, P σ H → e.nx σ H
  r : ∀ {v H}, D.rt v H → e.rt v H
def ForW (J : It) (g : TG) (tb : TS) (D : Ends) (σ : St) (H1 : Hp) : Prop := ∃ W : Nat → Nat → St → Hp → Prop, (∃ m, W 0 m σ H1) ∧ ∀ i m σ H, W i m σ H →
  (J.stop i H ∧ D.nx σ H) ∨ (J.go i H ∧ ∃ N : St → Hp → Prop, (∀ σ' H', N σ' H' → ∃ m', m' < m ∧ W (i + 1) m' σ' H') ∧ ∀ x H', J.yld i H x H' → g x σ H' fun σ2 H2 => tb { D with nx := N, ct := N, bk := D.nx } σ2 H2)
def tFor (wi : TI) (g : TG) (tb : TS) : TS := fun D σ H => wi σ H fun J H1 => ForW J g tb D σ H1
def pinsAt (fp : List Addr) (h : Heap) : List (Addr × Obj) := fp.filterMap fun b => (h.get? b).map fun o => (b, o)
theorem mem_pinsAt {fp : List Addr} {h : Heap} {b : Addr} {o : Obj} (hb : b ∈ fp) (e : h.get? b = some o) : (b, o) ∈ pinsAt fp h := List.mem_filterMap.mpr ⟨b, hb, by rw [e]; rfl⟩
theorem of_pinsAt {fp : List Addr} {h : Heap} {p : Addr × Obj} (hp : p ∈ pinsAt fp h) : p.1 ∈ fp ∧ h.get? p.1 = some p.2 := by
  obtain ⟨b, hb, e⟩ := List.mem_filterMap.mp hp
  cases q : h.get? b with
  | none => rw [q] at e; cases e
  | some o =>
    rw [q] at e
    have e' : (b, o) = p := Option.some.inj e
    subst e'
    exact ⟨hb, q⟩
theorem Inv.pinned {pins : List (Addr × Obj)} {σ : St} {H : Hp} {s : Shared} {fp : List Addr} (I : Inv X pins σ H s) (hf : ∀ b ∈ fp, FpOk X pins H b) (ho : ∀ b ∈ fp, ∃ o, s.heap.get? b = some o ∧ ∀ v, o.data ≠ .cell v) : Inv X (pins ++ pinsAt fp s.heap) σ H s :=
  I.pins_of fun p hp => (List.mem_append.mp hp).elim (fun z => I.pin p (List.mem_append_right _ z)) fun z => by
    obtain ⟨hb, e⟩ := of_pinsAt z
    obtain ⟨f0, f1, f2, _⟩ := hf p.1 hb
    obtain ⟨o, e', d⟩ := ho p.1 hb
    rw [e] at e'; cases e'
    exact ⟨e, f0, f1, f2, d⟩
theorem Inv.unpinned {pins pl : List (Addr × Obj)} {σ : St} {H : Hp} {s : Shared} (I : Inv X (pins ++ pl) σ H s) : Inv X pins σ H s := I.pins_of fun p hp => I.pin p (List.mem_append_right _ (List.mem_append_left _ hp))
theorem ps_for {iter : Expr} {body : List Stmt} {wi : TI} {g : TG} {tb : TS} {pos : Pos} (hp : PassesOwn (model X.prog X.w) X.A X.env X.xe) (hc : X.calm = true) (hi : PI X tg iter wi) (hg : PG X tg g) (hb : PSs X body tb)
    (hs : ∀ x, foldedSetIterable iter X.env x = pure x := by intro _; rfl) : PS X (.For tg iter body [] pos) (tFor wi g tb) := by
  intro pins s σ H D I h
  refine wpAny_For (thn (hi pins s σ H _ I h) fun v s1 h1 => thn h1 fun itv s2 h2 => ?_) hs
  obtain ⟨it, fp, tn, J, H2, e, I2, T, st2, f2, W, ⟨m0, w0⟩, turn⟩ := h2
  subst e
  have stat : ∀ {H' : Hp}, (∀ b ∈ fp, H' b = none) → ∀ b ∈ fp, FpOk X pins H' b := fun hn b hb => ⟨hn b hb, (f2 b hb).2⟩
  refine codeAny_forLoop_any (fun n s' => ∃ i σ' H', Inv X pins σ' H' s' ∧ tn i s'.heap ∧ (∀ b ∈ fp, H' b = none) ∧ W i n σ' H') ?_ m0 ⟨0, σ, H2, I2, st2, fun b hb => (f2 b hb).1, w0⟩
  rintro n s3 ⟨i, σ3, H3, I3, st3, fr3, w3⟩
  rcases turn i n σ3 H3 w3 with ⟨stop, qn⟩ | ⟨go, N, hN, step⟩
  · refine wpAny_passesOwn hp (thn (T.done X rfl rfl rfl hc i pins s3 σ3 H3 X.xe I3 (stat fr3) st3 stop) fun r s4 ⟨hr, I4⟩ => ?_)
    subst hr
    exact wpAny_execs_nil ⟨σ3, H3, I4, qn⟩
  · refine wpAny_passesOwn hp (thn (T.item X rfl rfl rfl hc i pins s3 σ3 H3 X.xe I3 (stat fr3) st3 go) fun r s4 ⟨u, hr, h4⟩ => ?_)
    subst hr
    refine wpAny_passesOwn hp (thn h4 fun _ s5 ⟨x, H5, I5, r5, y5, st5, fr5⟩ => ?_)
    have I5' := I5.pinned (stat fr5) (T.obj _ _ st5)
    refine wpAny_passesOwn hp (thn (hg _ s5 σ3 H5 x u _ I5' r5 (step x H5 y5)) fun _ s6 ⟨σ6, H6, I6, q6⟩ => ?_)
    refine wpAny_passesOwn hp (thn (hb _ s6 σ6 H6 _ I6 q6) fun f s7 q7 => ?_)
    have again : ∀ {σ7 : St} {H7 : Hp}, Inv X (pins ++ pinsAt fp s5.heap) σ7 H7 s7 → N σ7 H7 → ∃ m, m < n ∧ ∃ i σ' H', Inv X pins σ' H' s7 ∧ tn i s7.heap ∧ (∀ b ∈ fp, H' b = none) ∧ W i m σ' H' := fun {σ7 H7} I7 n7 => by
      obtain ⟨m', hm, w7⟩ := hN σ7 H7 n7
      refine ⟨m', hm, i + 1, σ7, H7, I7.unpinned, T.keep _ _ _ st5 fun b hb o e => (I7.pin (b, o) (List.mem_append_right _ (List.mem_append_right _ (mem_pinsAt hb e)))).1, fun b hb => ?_, w7⟩
      obtain ⟨o, e, d⟩ := T.obj _ _ st5 b hb
      exact (I7.pin (b, o) (List.mem_append_right _ (List.mem_append_right _ (mem_pinsAt hb e)))).2.1
    cases f with
    | next => obtain ⟨σ7, H7, I7, n7⟩ := q7; exact again I7 n7
    | cont => obtain ⟨σ7, H7, I7, n7⟩ := q7; exact again I7 n7
    | brk => obtain ⟨σ7, H7, I7, q7⟩ := q7; exact ⟨σ7, H7, I7.unpinned, q7⟩
    | ret v => obtain ⟨x7, σ7, H7, I7, r7, q7⟩ := q7; exact ⟨x7, σ7, H7, I7.unpinned, r7, q7⟩
end

theorem for_range {lo : Int} {n : Nat} {g : TG} {tb : TS} {D : Ends} {σ : St} {H : Hp} (Pv : Nat → St → Hp → Prop) (h0 : Pv 0 σ H)
    (hs : ∀ i σ H e, Go D (Pv (i + 1)) e → i < n → Pv i σ H → g (.int (lo + i)) σ H (tb e)) (hd : ∀ σ H, Pv n σ H → D.nx σ H) :
    ForW (Itr lo n) g tb D σ H := by
  refine ⟨fun i m σ H => m = n - i ∧ i ≤ n ∧ Pv i σ H, ⟨n, by simp, Nat.zero_le _, h0⟩, ?_⟩
  rintro i m σ H ⟨rfl, hi, p⟩
  by_cases hlt : i < n
  · refine .inr ⟨hlt, Pv (i + 1), fun σ' H' p' => ⟨n - (i + 1), by lia, rfl, hlt, p'⟩, fun x H' y => ?_⟩
    obtain ⟨e, y⟩ := y
    subst e y
    exact hs i σ _ _ ⟨id, id⟩ hlt p
  · have e : i = n := by lia
    subst e
    exact .inl ⟨Nat.le_refl _, hd σ H p⟩
end L2

namespace L2
open PySem PySem.Spec PyProof.Rows

abbrev R2 := V → V → Hp → VK → Prop
def OpR (X : Cx) (f : Value → Value → Sem Value) (r : R2) : Prop :=
  ∀ (pins : List (Addr × Obj)) (s : Shared) (σ : St) (H : Hp) (x y : V) (v u : Value) (Q : VK), Inv X pins σ H s → RelV x v → RelV y u → r x y H Q →
    wpAny (model X.prog X.w) X.A (f v u) (EP X pins σ Q) X.xe s
def UnR (X : Cx) (f : Value → Sem Value) (r : V → Hp → VK → Prop) : Prop :=
  ∀ (pins : List (Addr × Obj)) (s : Shared) (σ : St) (H : Hp) (x : V) (v : Value) (Q : VK), Inv X pins σ H s → RelV x v → r x H Q →
    wpAny (model X.prog X.w) X.A (f v) (EP X pins σ Q) X.xe s
def CallR (X : Cx) (f : Value) (r : List V → Hp → VK → Prop) : Prop :=
  ∀ (pins : List (Addr × Obj)) (s : Shared) (σ : St) (H : Hp) (xs : List V) (us : List Value) (Q : VK), Inv X pins σ H s → Vals xs us → r xs H Q →
    wpAny (model X.prog X.w) X.A (call f us) (EP X pins σ Q) X.xe s
def tOp (r : R2) (ta tb : TE) : TE := fun σ H Q => ta σ H fun x H1 => tb σ H1 fun y H2 => r x y H2 Q
def tUn (r : V → Hp → VK → Prop) (ta : TE) : TE := fun σ H Q => ta σ H fun x H1 => r x H1 Q
inductive rII (C : Int → Int → Prop) (g : Int → Int → V) (x y : V) (H : Hp) (Q : VK) : Prop
  | mk (i j : _) (x0 : x = .int i) (x1 : y = .int j) (x2 : C i j) (x3 : Q (g i j) H)
def rI (C : Int → Int → Prop) (g : Int → Int → V) : R2 := fun x y H Q => rII C g x y H Q
inductive rI0I (g : Int → Int → V) (x y : V) (H : Hp) (Q : VK) : Prop
  | mk (i j : _) (x0 : x = .int i) (x1 : y = .int j) (x2 : Q (g i j) H)
def rI0 (g : Int → Int → V) : R2 := fun x y H Q => rI0I g x y H Q
inductive rUI (g : Int → V) (x : V) (H : Hp) (Q : VK) : Prop
  | mk (i : _) (x0 : x = .int i) (x1 : Q (g i) H)
def rU (g : Int → V) : V → Hp → VK → Prop := fun x H Q => rUI g x H Q

section
variable {X : Cx} {a b c : Expr} {ta tb tc : TE} {pos : Pos}

theorem binT (ha : PE X a ta) (hb : PE X b tb) {pins : List (Addr × Obj)} {s : Shared} {σ : St} {H : Hp} {R : V → V → Hp → Prop} (I : Inv X pins σ H s)
    (h : ta σ H fun x H1 => tb σ H1 fun y H2 => R x y H2) {Q : Value → Shared → Prop} {f : Value → Value → Sem Value}
    (hf : ∀ v u s2 x y H2, Inv X pins σ H2 s2 → RelV x v → RelV y u → R x y H2 → wpAny (model X.prog X.w) X.A (f v u) Q X.xe s2) :
    wpAny (model X.prog X.w) X.A (eval a X.env) (fun v s₁ => wpAny (model X.prog X.w) X.A (eval b X.env) (fun u s₂ => wpAny (model X.prog X.w) X.A (f v u) Q X.xe s₂) X.xe s₁) X.xe s := by
  refine thn (ha pins s σ H _ I h) fun v s1 zq => zq.elim fun x H1 I1 r1 q1 => ?_
  refine thn (hb pins s1 σ H1 _ I1 q1) fun u s2 zq => zq.elim fun y H2 I2 r2 q2 => ?_
  exact hf v u s2 x y H2 I2 r1 r2 q2

theorem pe_op {op : Operator} {r : R2} (ho : OpR X (binaryOp op) r) (ha : PE X a ta) (hb : PE X b tb) : PE X (.BinOp a op b pos) (tOp r ta tb) := by
  intro pins s σ H Q I h
  exact wpAny_BinOp (binT ha hb I h fun v u s2 x y H2 I2 rx ry q => ho pins s2 σ H2 x y v u Q I2 rx ry q)
theorem pe_un {op : UnaryOp} {r : V → Hp → VK → Prop} (ho : UnR X (unaryOp op) r) (ha : PE X a ta) : PE X (.UnaryOp op a pos) (tUn r ta) := by
  intro pins s σ H Q I h
  exact UnaryOp_ (thn (ha pins s σ H _ I h) fun v s1 zq => zq.elim fun x H1 I1 r1 q1 => ho pins s1 σ H1 x v Q I1 r1 q1)
theorem opI {f : Value → Value → Sem Value} {C : Int → Int → Prop} {g : Int → Int → Int}
    (rule : ∀ (i j : Int) (t u : Tok) (s : Shared) (Q : Value → Shared → Prop) (E : Value → Shared → Prop), C i j → Q (.int (g i j) s.toks) { s with toks := s.toks + 1 } → wpAny (model X.prog X.w) X.A (f (.int i t) (.int j u)) Q E s) :
    OpR X f (rI C fun i j => .int (g i j)) := by
  intro pins s σ H x y v u Q I rx ry h
  obtain ⟨i, j, rfl, rfl, hc, q⟩ := h
  obtain ⟨t, rfl⟩ := rx
  obtain ⟨t', rfl⟩ := ry
  exact rule i j t t' s _ _ hc ⟨.int (g i j), H, I.tok _, ⟨_, rfl⟩, q⟩
theorem opI0 {f : Value → Value → Sem Value} {g : Int → Int → Int}
    (rule : ∀ (i j : Int) (t u : Tok) (s : Shared) (Q : Value → Shared → Prop) (E : Value → Shared → Prop), Q (.int (g i j) s.toks) { s with toks := s.toks + 1 } → wpAny (model X.prog X.w) X.A (f (.int i t) (.int j u)) Q E s) :
    OpR X f (rI0 fun i j => .int (g i j)) := by
  intro pins s σ H x y v u Q I rx ry h
  obtain ⟨i, j, rfl, rfl, q⟩ := h
  obtain ⟨t, rfl⟩ := rx
  obtain ⟨t', rfl⟩ := ry
  exact rule i j t t' s _ _ ⟨.int (g i j), H, I.tok _, ⟨_, rfl⟩, q⟩
theorem opB0 {f : Value → Value → Sem Value} {g : Int → Int → Bool}
    (rule : ∀ (i j : Int) (t u : Tok) (s : Shared) (Q : Value → Shared → Prop) (E : Value → Shared → Prop), Q (.bool (g i j)) s → wpAny (model X.prog X.w) X.A (f (.int i t) (.int j u)) Q E s) :
    OpR X f (rI0 fun i j => .bl (g i j)) := by
  intro pins s σ H x y v u Q I rx ry h
  obtain ⟨i, j, rfl, rfl, q⟩ := h
  obtain ⟨t, rfl⟩ := rx
  obtain ⟨t', rfl⟩ := ry
  exact rule i j t t' s _ _ ⟨.bl (g i j), H, I, rfl, q⟩

def CDiv (i j : Int) : Prop := 0 < j ∧ j < 1073741824
def CPow (i j : Int) : Prop := 0 ≤ j ∧ j ≤ 1000000 ∧ i.natAbs < 2 ^ 64
def CMul (i j : Int) : Prop := (-(2 ^ 64) < i ∧ i < 2 ^ 64) ∨ (-(2 ^ 64) < j ∧ j < 2 ^ 64)
theorem CMul.ok {i j : Int} (h : CMul i j) : IntMulOk i j := by
  rcases h with ⟨h1, h2⟩ | ⟨h1, h2⟩
  · exact .of_left (intBits_le_64 h1 h2)
  · exact .of_right (intBits_le_64 h1 h2)
theorem op_add : OpR X (binaryOp .Add) (rI0 fun i j => .int (i + j)) := opI0 fun _ _ _ _ _ _ _ q => add_int q
theorem op_sub : OpR X (binaryOp .Sub) (rI0 fun i j => .int (i - j)) := opI0 fun _ _ _ _ _ _ _ q => sub_int q
theorem op_mul : OpR X (binaryOp .Mult) (rI CMul fun i j => .int (i * j)) := opI fun _ _ _ _ _ _ _ hc q => mul_int q hc.ok
theorem op_fdiv : OpR X (binaryOp .FloorDiv) (rI CDiv fun i j => .int (i / j)) := opI fun i j _ _ _ _ _ hc q => by
  have h1 : (0 : Int) < j := hc.1
  have h2 : j < 1073741824 := hc.2
  exact floordiv_int (by lia) (by rw [Int.fdiv_eq_ediv_of_nonneg i (by lia)]; exact q) (.inl (PyProof.noPylong_small (by lia)))
theorem op_mod : OpR X (binaryOp .Mod) (rI (fun _ j => 0 < j) fun i j => .int (i % j)) := opI fun i j _ _ _ _ _ hc q => by
  have h1 : (0 : Int) < j := hc
  exact mod_int' (by lia) (by rw [Int.fmod_eq_emod_of_nonneg i (by lia)]; exact q)
theorem op_pow : OpR X (binaryOp .Pow) (rI CPow fun i j => .int (i ^ j.toNat)) := opI fun _ _ _ _ _ _ _ hc q => pow_int_small hc.1 hc.2.1 hc.2.2 q
theorem unI {f : Value → Sem Value} {g : Int → Int}
    (rule : ∀ (i : Int) (t : Tok) (s : Shared) (Q : Value → Shared → Prop) (E : Value → Shared → Prop), Q (.int (g i) s.toks) { s with toks := s.toks + 1 } → wpAny (model X.prog X.w) X.A (f (.int i t)) Q E s) :
    UnR X f (rU fun i => .int (g i)) := by
  intro pins s σ H x v Q I rx h
  obtain ⟨i, rfl, q⟩ := h
  obtain ⟨t, rfl⟩ := rx
  exact rule i t s _ _ ⟨.int (g i), H, I.tok _, ⟨_, rfl⟩, q⟩
theorem un_neg : UnR X (unaryOp .USub) (rU fun i => .int (-i)) := unI fun _ _ _ _ _ q => neg_int q
end

def scal : V → V → Bool
  | .non, .non => true | .non, .int _ => true | .int _, .non => true | .non, .bl _ => true | .bl _, .non => true | .non, .str _ => true | .str _, .non => true
  | .int _, .int _ => true | .bl _, .bl _ => true | .str _, .str _ => true | .byt _, .byt _ => true
  | .int _, .str _ => true | .str _, .int _ => true | .bl _, .str _ => true | .str _, .bl _ => true
  | _, _ => false
def rEq : R2 := fun x y H Q => scal x y = true ∧ Q (.bl (decide (x = y))) H
def rNe : R2 := fun x y H Q => scal x y = true ∧ Q (.bl (!decide (x = y))) H

theorem dec_int {i j : Int} : decide (V.int i = V.int j) = (i == j) := by
  rw [Bool.eq_iff_iff]
  simp
theorem dec_bl {i j : Bool} : decide (V.bl i = V.bl j) = (i == j) := by
  rw [Bool.eq_iff_iff]
  simp
theorem dec_str {i j : Str} : decide (V.str i = V.str j) = (i == j) := by
  rw [Bool.eq_iff_iff]
  simp
theorem dec_byt {i j : Array UInt8} : decide (V.byt i = V.byt j) = (i.toList == j.toList) := by
  rw [Bool.eq_iff_iff]
  cases i
  cases j
  simp

section
variable {X : Cx} {a b c : Expr} {ta tb tc : TE} {pos : Pos}
theorem fin_bl {pins : List (Addr × Obj)} {σ : St} {H : Hp} {s : Shared} {Q : VK} {k k' : Bool} (I : Inv X pins σ H s) (q : Q (.bl k) H) (e : k = k') : EP X pins σ Q (.bool k') s := by
  subst e
  exact ⟨.bl k, H, I, rfl, q⟩
theorem op_eq : OpR X (compareOp .Eq) rEq := by
  intro pins s σ H x y v u Q I rx ry h
  obtain ⟨hs, q⟩ := h
  cases x with
  | non =>
    cases rx
    cases y with
    | non => cases ry; exact PySem.EqNone.eq_none_none (fin_bl I q (by simp))
    | bl j => cases ry; exact PySem.EqNone.eq_none_bool (fin_bl I q (by simp))
    | int j => obtain ⟨t', rfl⟩ := ry; exact PySem.EqNone.eq_none_int (fin_bl I q (by simp))
    | str j => obtain ⟨t', rfl⟩ := ry; exact PySem.EqNone.eq_none_str (fin_bl I q (by simp))
    | _ => exact absurd (show false = true from hs) Bool.false_ne_true
  | bl i =>
    cases rx
    cases y with
    | non => cases ry; exact PySem.EqNone.eq_bool_none (fin_bl I q (by simp))
    | bl j => cases ry; exact eq_bool (fin_bl I q dec_bl)
    | str j => obtain ⟨t', rfl⟩ := ry; exact PySem.EqMixed.eq_bool_str (fin_bl I q (by simp))
    | _ => exact absurd (show false = true from hs) Bool.false_ne_true
  | int i =>
    obtain ⟨t, rfl⟩ := rx
    cases y with
    | non => cases ry; exact PySem.EqNone.eq_int_none (fin_bl I q (by simp))
    | int j => obtain ⟨t', rfl⟩ := ry; exact eq_int (fin_bl I q dec_int)
    | str j => obtain ⟨t', rfl⟩ := ry; exact PySem.EqMixed.eq_int_str (fin_bl I q (by simp))
    | _ => exact absurd (show false = true from hs) Bool.false_ne_true
  | str i =>
    obtain ⟨t, rfl⟩ := rx
    cases y with
    | non => cases ry; exact PySem.EqNone.eq_str_none (fin_bl I q (by simp))
    | bl j => cases ry; exact PySem.EqMixed.eq_str_bool (fin_bl I q (by simp))
    | int j => obtain ⟨t', rfl⟩ := ry; exact PySem.EqMixed.eq_str_int (fin_bl I q (by simp))
    | str j => obtain ⟨t', rfl⟩ := ry; exact eq_str (fin_bl I q dec_str)
    | _ => exact absurd (show false = true from hs) Bool.false_ne_true
  | byt i =>
    obtain ⟨t, rfl⟩ := rx
    cases y with
    | byt j => obtain ⟨t', rfl⟩ := ry; exact PySem.W.eq_bytes (fin_bl I q dec_byt)
    | _ => exact absurd (show false = true from hs) Bool.false_ne_true
  | _ => cases y <;> exact absurd (show false = true from hs) Bool.false_ne_true
theorem op_ne : OpR X (compareOp .NotEq) rNe := by
  intro pins s σ H x y v u Q I rx ry h
  obtain ⟨hs, q⟩ := h
  cases x with
  | non =>
    cases rx
    cases y with
    | non => cases ry; exact PySem.EqNone.ne_none_none (fin_bl I q (by simp))
    | bl j => cases ry; exact PySem.EqNone.ne_none_bool (fin_bl I q (by simp))
    | int j => obtain ⟨t', rfl⟩ := ry; exact PySem.EqNone.ne_none_int (fin_bl I q (by simp))
    | str j => obtain ⟨t', rfl⟩ := ry; exact PySem.EqNone.ne_none_str (fin_bl I q (by simp))
    | _ => exact absurd (show false = true from hs) Bool.false_ne_true
  | bl i =>
    cases rx
    cases y with
    | non => cases ry; exact PySem.EqNone.ne_bool_none (fin_bl I q (by simp))
    | bl j => cases ry; exact ne_bool (fin_bl I q (congrArg not dec_bl))
    | str j => obtain ⟨t', rfl⟩ := ry; exact PySem.EqMixed.ne_bool_str (fin_bl I q (by simp))
    | _ => exact absurd (show false = true from hs) Bool.false_ne_true
  | int i =>
    obtain ⟨t, rfl⟩ := rx
    cases y with
    | non => cases ry; exact PySem.EqNone.ne_int_none (fin_bl I q (by simp))
    | int j => obtain ⟨t', rfl⟩ := ry; exact ne_int (fin_bl I q (congrArg not dec_int))
    | str j => obtain ⟨t', rfl⟩ := ry; exact PySem.EqMixed.ne_int_str (fin_bl I q (by simp))
    | _ => exact absurd (show false = true from hs) Bool.false_ne_true
  | str i =>
    obtain ⟨t, rfl⟩ := rx
    cases y with
    | non => cases ry; exact PySem.EqNone.ne_str_none (fin_bl I q (by simp))
    | bl j => cases ry; exact PySem.EqMixed.ne_str_bool (fin_bl I q (by simp))
    | int j => obtain ⟨t', rfl⟩ := ry; exact PySem.EqMixed.ne_str_int (fin_bl I q (by simp))
    | str j => obtain ⟨t', rfl⟩ := ry; exact ne_str (fin_bl I q (congrArg not dec_str))
    | _ => exact absurd (show false = true from hs) Bool.false_ne_true
  | byt i =>
    obtain ⟨t, rfl⟩ := rx
    cases y with
    | byt j => obtain ⟨t', rfl⟩ := ry; exact PySem.W.ne_bytes (fin_bl I q (congrArg not dec_byt))
    | _ => exact absurd (show false = true from hs) Bool.false_ne_true
  | _ => cases y <;> exact absurd (show false = true from hs) Bool.false_ne_true

theorem op_lt : OpR X (compareOp .Lt) (rI0 fun i j => .bl (decide (i < j))) := opB0 fun _ _ _ _ _ _ _ q => lt_int q
inductive r_op_leI (x y : V) (H : Hp) (Q : VK) : Prop
  | mk (i j : _) (h0_ : x = .str i) (h1_ : y = .str j) (h2_ : Q (.bl (decide (i.cps.toList < j.cps.toList))) H)
def r_op_le : V → V → Hp → VK → Prop := fun x y H Q => r_op_leI x y H Q
theorem op_le : OpR X (compareOp .LtE) (rI0 fun i j => .bl (decide (i ≤ j))) := opB0 fun _ _ _ _ _ _ _ q => le_int q
theorem op_gt : OpR X (compareOp .Gt) (rI0 fun i j => .bl (decide (j < i))) := opB0 fun _ _ _ _ _ _ _ q => gt_int q
theorem op_ge : OpR X (compareOp .GtE) (rI0 fun i j => .bl (decide (j ≤ i))) := opB0 fun _ _ _ _ _ _ _ q => ge_int q
theorem op_lt_str : OpR X (compareOp .Lt) r_op_le := by
  intro pins s σ H x y v u Q I rx ry h
  obtain ⟨i, j, rfl, rfl, q⟩ := h
  obtain ⟨t, rfl⟩ := rx
  obtain ⟨t', rfl⟩ := ry
  exact lt_str (fin_bl I q rfl)
inductive r_op_in_strI (x y : V) (H : Hp) (Q : VK) : Prop
  | mk (i j : _) (h0_ : x = .str i) (h1_ : y = .str j) (h2_ : Q (.bl (!(Builtin.Str.occurrences j i 0 j.length 1).isEmpty)) H)
def r_op_in_str : V → V → Hp → VK → Prop := fun x y H Q => r_op_in_strI x y H Q
theorem op_in_str : OpR X (compareOp .In) r_op_in_str := by
  intro pins s σ H x y v u Q I rx ry h
  obtain ⟨i, j, rfl, rfl, q⟩ := h
  obtain ⟨t, rfl⟩ := rx
  obtain ⟨t', rfl⟩ := ry
  exact in_str (fin_bl I q rfl)

theorem op_isN : OpR X (compareOp .Is) (fun x y H Q => y = .non ∧ Q (.bl (decide (x = .non))) H) := by
  intro pins s σ H x y v u Q I rx ry h
  obtain ⟨rfl, q⟩ := h
  cases ry
  refine is_none_gen (fin_bl I q ?_)
  cases x <;> first
    | (cases rx; rfl)
    | (obtain ⟨t, rfl⟩ := rx; rfl)
theorem op_notN : OpR X (compareOp .IsNot) (fun x y H Q => y = .non ∧ Q (.bl (!decide (x = .non))) H) := by
  intro pins s σ H x y v u Q I rx ry h
  obtain ⟨rfl, q⟩ := h
  cases ry
  refine isnot_none_gen (fin_bl I q ?_)
  cases x <;> first
    | (cases rx; rfl)
    | (obtain ⟨t, rfl⟩ := rx; rfl)

theorem nomark (b : Expr) {op : CmpOp} (h : op ≠ .In := by decide) (h2 : op ≠ .NotIn := by decide) : behindInMarks op b = false := by
  have e1 : (op == CmpOp.In) = false := by cases op <;> first | rfl | exact absurd rfl h
  have e2 : (op == CmpOp.NotIn) = false := by cases op <;> first | rfl | exact absurd rfl h2
  cases b <;> simp [behindInMarks, e1, e2]
theorem pe_cmpR {op : CmpOp} {r : R2} (ho : OpR X (compareOp op) r) (ha : PE X a ta) (hb : PE X b tb) (hm : behindInMarks op b = false) : PE X (.Compare a [op] [b] pos) (tOp r ta tb) := by
  intro pins s σ H Q I h
  exact wpAny_Compare1 (binT ha hb I h fun v u s2 x y H2 I2 rx ry q => ho pins s2 σ H2 x y v u Q I2 rx ry q) hm
def tTest (t : TE) : TT := fun σ H Q => t σ H fun x H' => BlQ x H' Q
theorem pt_cmpR {op : CmpOp} {r : R2} (ho : OpR X (compareOp op) r) (ha : PE X a ta) (hb : PE X b tb) (hm : behindInMarks op b = false) : PT X (.Compare a [op] [b] pos) (tTest (tOp r ta tb)) := by
  intro pins s σ H Q I h
  refine wpAny_isTrue_Compare1 (thn (ha pins s σ H _ I h) fun v s1 zq => zq.elim fun x H1 I1 r1 q1 => thn (hb pins s1 σ H1 _ I1 q1) fun u s2 ⟨y, H2, I2, r2, q2⟩ =>
    thn (ho pins s2 σ H2 x y v u _ I2 r1 r2 q2) fun c s3 ⟨z, H3, I3, r3, k, e, q3⟩ => ?_) hm
  subst e
  cases r3
  exact wpAny_truthy_bool ⟨H3, I3, q3⟩
def tChain (r r' : R2) (ta tb tc : TE) : TE := fun σ H Q => ta σ H fun x H1 => tb σ H1 fun y H2 => r x y H2 fun z H3 => ∃ k, z = .bl k ∧
  (if k = true then tc σ H3 fun w' H4 => r' y w' H4 Q else Q (.bl false) H3)
theorem pe_chain {op op' : CmpOp} {r r' : R2} (ho : OpR X (compareOp op) r) (ho' : OpR X (compareOp op') r') (ha : PE X a ta) (hb : PE X b tb) (hc : PE X c tc)
    (hm : lastMarks [op, op'] [b, c] = false := by with_unfolding_all rfl) : PE X (.Compare a [op, op'] [b, c] pos) (tChain r r' ta tb tc) := by
  intro pins s σ H Q I h
  refine Compare_chain (thn (ha pins s σ H _ I h) fun v s1 zq => zq.elim fun x H1 I1 r1 q1 => chain_link (thn (hb pins s1 σ H1 _ I1 q1) fun u s2 ⟨y, H2, I2, r2, q2⟩ =>
    thn (ho pins s2 σ H2 x y v u _ I2 r1 r2 q2) fun d s3 ⟨z, H3, I3, r3, k, e, q3⟩ => ?_)) hm
  subst e
  cases r3
  refine wpAny_truthy_bool ?_
  cases k with
  | false => exact ite_ff ⟨.bl false, H3, I3, rfl, q3⟩
  | true => exact ite_tt (chain_last (thn (hc pins s3 σ H3 _ I3 q3) fun w' s4 zq => zq.elim fun z' H4 I4 r4 q4 => ho' pins s4 σ H4 y z' u w' Q I4 r2 r4 q4))
theorem line63 : (sizeLine : Nat) < 2 ^ 63 := by rw [sizeLine_eq]; decide
inductive r_op_add_strI (x y : V) (H : Hp) (Q : VK) : Prop
  | mk (i j : _) (h0_ : x = .str i) (h1_ : y = .str j) (h2_ : i.length + j.length ≤ sizeLine) (h3_ : Q (.str (i ++ j)) H)
def r_op_add_str : V → V → Hp → VK → Prop := fun x y H Q => r_op_add_strI x y H Q
theorem op_add_str : OpR X (binaryOp .Add) r_op_add_str := by
  intro pins s σ H x y v u Q I rx ry h
  obtain ⟨i, j, rfl, rfl, hz, q⟩ := h
  obtain ⟨t, rfl⟩ := rx
  obtain ⟨t', rfl⟩ := ry
  exact add_str (fun t' tk => ⟨.str (i ++ j), H, I.tok _, ⟨_, rfl⟩, q⟩) hz
theorem vals1 {x : V} {us : List Value} (r : Vals [x] us) : ∃ u, us = [u] ∧ RelV x u := by
  cases r with
  | cons r1 r2 => cases r2; exact ⟨_, rfl, r1⟩
theorem vals2 {x y : V} {us : List Value} (r : Vals [x, y] us) : ∃ u w', us = [u, w'] ∧ RelV x u ∧ RelV y w' := by
  cases r with
  | cons r1 r2 =>
    cases r2 with
    | cons r3 r4 => cases r4; exact ⟨_, _, rfl, r1, r3⟩
theorem call_int1 : CallR X (.type "int") (fun xs H Q => (∃ i, xs = [.int i] ∧ Q (.int i) H) ∨ ∃ k, xs = [.bl k] ∧ Q (.int (if k then 1 else 0)) H) := by
  intro pins s σ H xs us Q I r h
  rcases h with ⟨i, rfl, q⟩ | ⟨k, rfl, q⟩
  · obtain ⟨u, rfl, t, rfl⟩ := vals1 r
    exact call_int_int ⟨.int i, H, I, ⟨_, rfl⟩, q⟩
  · obtain ⟨u, rfl, r1⟩ := vals1 r
    cases r1
    exact call_int_bool ⟨.int (if k then 1 else 0), H, I.tok _, ⟨_, rfl⟩, q⟩
inductive r_call_str_intI (xs : List V) (H : Hp) (Q : VK) : Prop
  | mk (i : _) (h0_ : xs = [.int i]) (h1_ : i.natAbs.log2 < 1920) (h2_ : Q (.str (toString i)) H)
def r_call_str_int : List V → Hp → VK → Prop := fun xs H Q => r_call_str_intI xs H Q
theorem call_str_int : CallR X (.type "str") r_call_str_int := by
  intro pins s σ H xs us Q I r h
  obtain ⟨i, rfl, hz, q⟩ := h
  obtain ⟨u, rfl, t, rfl⟩ := vals1 r
  exact PySem.P.str_of_int hz ⟨.str _, H, I.tok _, ⟨_, rfl⟩, q⟩
end
end L2

namespace L2
open PySem PySem.Spec PyProof.Rows

structure ObjM (h : Heap) (x dx C : Addr) (mA : Str → Option Value) : Prop where
  obj : h.get? x = some (PySem.W.instObj C dx)
  ns : h.Ns1 dx mA
  ne : dx ≠ x

theorem lookIn_ns {h : Heap} {dx : Addr} {mA : Str → Option Value} (n : h.Ns1 dx mA) : ∃ od, h.get? dx = some od ∧ ∀ name, PySem.W.lookIn name od = some (mA name) := by
  obtain ⟨o, es, ep, ho, hd, hk, _, hm⟩ := n
  refine ⟨o, ho, fun name => ?_⟩
  have e := hm name
  unfold nsFind findBy at e
  rw [← Array.find?_toList] at e
  unfold PySem.W.lookIn
  rw [hd]
  dsimp only
  split
  · rename_i y q
    rw [q] at e
    exact congrArg some e
  · rename_i q
    rw [q] at e
    have a : es.toList.any (·.refKey) = false := by
      rw [List.any_eq_false]
      intro y hy
      obtain ⟨z, t, hkey⟩ := hk y (Array.mem_toList_iff.mp hy)
      simp [DictEntry.refKey, hkey]
    have a' : ¬ es.toList.any (·.refKey) = true := by rw [a]; exact Bool.false_ne_true
    rw [if_neg a']
    exact congrArg some e

theorem ObjM.look {h : Heap} {x dx C : Addr} {mA : Str → Option Value} (I : ObjM h x dx C mA) : ∃ od, PySem.W.InstAt h x (PySem.W.instObj C dx) C (some od) ∧ ∀ name, PySem.W.lookIn name od = some (mA name) :=
  let ⟨od, ho, hl⟩ := lookIn_ns I.ns
  ⟨od, ⟨I.obj, rfl, rfl, ho⟩, hl⟩

section
variable {prog : Program} {w : World} {A : Around} {E : Value → Shared → Prop} {s : Shared} {K : PySem.W.Frag} {x dx C f : Addr} {mA : Str → Option Value} {name : Str} {v : Value}

theorem get_map {expr : Bool} {Q : Value → Shared → Prop} (X : K.In s.heap) (I : ObjM s.heap x dx C mA) (hg : PySem.W.plainGet K C name = true) (hh : PySem.W.hasDictIn K C = true)
    (ha : PySem.W.findIn K (.ref C) name = some none) (hv : mA name = some v) (hv' : PySem.W.handedIn v = true) (h : Q v { s with toks := s.toks + 1 }) :
    wpAny (model prog w) A (getAttr (.ref x) name expr) Q E s := by
  obtain ⟨od, J, hl⟩ := I.look
  exact PySem.W.get_value X J (PySem.W.plainGet_of hg).1 (PySem.W.findObj_own hh ha rfl (by rw [hl, hv])) hv' h

theorem get_meth {pl : Sem Bool} {Q : Value × List Value → Shared → Prop} (X : K.In s.heap) (I : ObjM s.heap x dx C mA) (hg : PySem.W.plainGet K C name = true)
    (hf : PySem.W.findIn K (.ref C) name = some (some (.ref f))) (ht : PySem.W.isFn K (.ref f) = true) (hv : mA name = none) (h : Q (.ref f, [.ref x]) s) :
    wpAny (model prog w) A (getMethod (.ref x) name pl) Q E s := by
  obtain ⟨od, J, hl⟩ := I.look
  exact PySem.W.method_fn X J (PySem.W.plainGet_of hg).1 (PySem.W.plainGet_of hg).2 hf (beq_iff_eq.mp ht) (by show (PySem.W.lookIn name od).map (·.isSome) = some false; rw [hl, hv]; rfl) h

theorem set_map {ns : List Str} {Q : Unit → Shared → Prop} (X : K.In s.heap) (I : ObjM s.heap x dx C mA)
    (hs : PySem.W.findIn K (.ref C) "__setattr__" = some (some (.builtin "object.__setattr__"))) (hp : PySem.W.plainOver K C = true) (ht : PySem.W.takerIn K C name = some none) (hh : PySem.W.hasDictIn K C = true)
    (hw : PySem.Within mA ns) (hsz : ns.length ≤ sizeLine)
    (h : ∀ h', ObjM h' x dx C (fun y => if y = name then some v else mA y) → Heap.SameBut dx s.heap h' → Q () { s with heap := h', toks := s.toks + 2 }) :
    wpAny (model prog w) A (setAttr (.ref x) name v) Q E s := by
  obtain ⟨od, J, hl⟩ := I.look
  refine PySem.W.set_plain X J hs (PySem.W.osa_open (s := { s with toks := s.toks + 1 }) (r := none) X J hp ht fun b => ?_)
  obtain ⟨cd, hc, hd'⟩ := PySem.W.any_some hh
  have hx : s.heap.get? x = some ⟨.ref C, some dx, .plain, #[]⟩ := I.obj
  refine wpAny_bind (wpAny_pure (wpAny_bind (wpAny_bind (wpAny_loadPart hx (wpAny_bind (PySem.W.Looks.here (s := { s with toks := s.toks + 1 }) (PySem.W.looks_clsIn X hc) ?_))))))
  rw [hd']
  refine wpAny_pure (a := some dx) (wpAny_bind (wpAny_pure (wpAny_bind ?_)))
  refine wpAny_nsSet1 (s := { s with toks := s.toks + 1 }) I.ns fun h' hn2 hs2 => ?_
  obtain ⟨oD, esD, epD, hoD, hdD, hcD⟩ := hn2.count (PySem.Within.cons name v hw)
  refine wpAny_bind (wpAny_lookBehind hoD (by rw [hdD]; exact pastItsLine_dict (Nat.le_trans hcD (by rw [List.length_cons]; lia))) ?_)
  exact wpAny_pure (h _ ⟨(hs2.2 _ (Ne.symm I.ne)).trans I.obj, hn2, I.ne⟩ hs2)

theorem make_map {R : Result → Shared → Prop} {vs : List Value} {kw : List (Str × Value)} (X : K.In s.heap) (hm : PySem.W.makesIn K C = true)
    (hi : PySem.W.findIn K (.ref C) "__init__" = some (some (.ref f))) (hf : PySem.W.typeIn K (.ref f) = some (.type "function"))
    (h : codeAny (model prog w) (A.under (.builtin "type.__call__" ⟨.ref C :: vs, kw⟩)) (.call (.ref f) ⟨.ref (s.heap.objs.size + 1) :: vs, kw⟩) (PySem.W.InitBack (s.heap.objs.size + 1) R)
      { s with heap := (s.heap.push PySem.W.emptyDict).push (PySem.W.instObj C s.heap.objs.size) }) :
    codeAny (model prog w) A (.call (.ref C) ⟨vs, kw⟩) R s := by
  obtain ⟨hh, g, d, t, os⟩ := s
  exact PySem.W.make_core (PySem.W.makes_of X hm) (PySem.W.looks_findIn X hi) (fun self => PySem.W.bind_fn X self hf) (.inl rfl) h
end

def putF (f : Str) (v : V) : List (Str × V) → List (Str × V)
  | [] => [(f, v)]
  | (g, x) :: r => if g = f then (g, v) :: r else (g, x) :: putF f v r
theorem lookup_putF (f g : Str) (v : V) : ∀ fs : List (Str × V), (putF f v fs).lookup g = if g = f then some v else fs.lookup g
  | [] => by
    show List.lookup g [(f, v)] = _
    by_cases h : g = f
    · have hb : (g == f) = true := beq_iff_eq.mpr h
      simp only [List.lookup, hb, if_pos h]
    · have hb : (g == f) = false := beq_eq_false_iff_ne.mpr h
      simp only [List.lookup, hb, if_neg h]
  | (k, x) :: r => by
    have ih := lookup_putF f g v r
    rw [show putF f v ((k, x) :: r) = (if k = f then (k, v) :: r else (k, x) :: putF f v r) from rfl]
    by_cases hk : k = f
    · rw [if_pos hk]
      by_cases h : g = k
      · have hb : (g == k) = true := beq_iff_eq.mpr h
        simp only [List.lookup, hb, if_pos (h.trans hk)]
      · have hb : (g == k) = false := beq_eq_false_iff_ne.mpr h
        simp only [List.lookup, hb, if_neg (fun e : g = f => h (e.trans hk.symm))]
    · rw [if_neg hk]
      by_cases h : g = k
      · have hb : (g == k) = true := beq_iff_eq.mpr h
        simp only [List.lookup, hb, if_neg (fun e : g = f => hk (h.symm.trans e))]
      · have hb : (g == k) = false := beq_eq_false_iff_ne.mpr h
        simp only [List.lookup, hb]
        exact ih
theorem keys_putF (f : Str) (v : V) : ∀ fs : List (Str × V), f ∈ (putF f v fs).map (·.1) ∧ ∀ g, g ∈ fs.map (·.1) → g ∈ (putF f v fs).map (·.1)
  | [] => ⟨by simp [putF], fun g h => by simp at h⟩
  | (k, x) :: r => by
    obtain ⟨i1, i2⟩ := keys_putF f v r
    rw [show putF f v ((k, x) :: r) = (if k = f then (k, v) :: r else (k, x) :: putF f v r) from rfl]
    by_cases hk : k = f
    · rw [if_pos hk]
      subst hk
      exact ⟨by simp, fun g h => by simpa using h⟩
    · rw [if_neg hk]
      refine ⟨?_, fun g h => ?_⟩
      · rw [List.map_cons]
        exact List.mem_cons_of_mem _ i1
      · rw [List.map_cons] at h ⊢
        rcases List.mem_cons.mp h with e | e
        · exact List.mem_cons.mpr (.inl e)
        · exact List.mem_cons_of_mem _ (i2 g e)
theorem length_putF (f : Str) (v : V) : ∀ fs : List (Str × V), (putF f v fs).length ≤ fs.length + 1
  | [] => by simp [putF]
  | (k, x) :: r => by
    have ih := length_putF f v r
    rw [show putF f v ((k, x) :: r) = (if k = f then (k, v) :: r else (k, x) :: putF f v r) from rfl]
    by_cases hk : k = f
    · rw [if_pos hk, List.length_cons, List.length_cons]; lia
    · rw [if_neg hk, List.length_cons, List.length_cons]; lia

theorem RelO.some_of {v : V} {o : Option Value} (r : RelO (some v) o) : ∃ u, o = some u ∧ RelV v u := by
  cases o with
  | none => exact (show False from r).elim
  | some u => exact ⟨u, rfl, r⟩
theorem RelO.none_of {o : Option Value} (r : RelO none o) : o = none := by
  cases o with
  | none => rfl
  | some u => exact (show False from r).elim
theorem handed_of {v : V} {u : Value} (r : RelV v u) : PySem.W.handedIn u = true := by
  cases v with
  | non => cases (show u = Value.none from r); rfl
  | bl b => cases (show u = Value.bool b from r); rfl
  | int i => obtain ⟨t, e⟩ := (show ∃ t, u = Value.int i t from r); cases e; rfl
  | str x => obtain ⟨t, e⟩ := (show ∃ t, u = Value.str x t from r); cases e; rfl
  | byt b => obtain ⟨t, e⟩ := (show ∃ t, u = Value.bytes b t from r); cases e; rfl
  | flt b => obtain ⟨t, e⟩ := (show ∃ t, u = Value.float b t from r); cases e; rfl
  | ref a => cases (show u = Value.ref a from r); rfl
  | ty n => cases (show u = Value.type n from r); rfl

section
variable {P : Program} {w : World} {H H' : Hp} {h h' : Heap} {a C dx : Addr} {fs fs' : List (Str × V)}
theorem ins_get (hok : HOk P w H h) (e : H a = some (.ins C dx fs)) : ∃ mA, ObjM h a dx C mA ∧ (∀ f, RelO (fs.lookup f) (mA f)) ∧ PySem.Within mA (fs.map (·.1)) ∧ fs.length ≤ 1000 ∧ H dx = some (.own a) := by
  obtain ⟨d, z, ne, ob, mA, n, r, q⟩ := (show ObjOk P w H h a (.ins C dx fs) from hok a _ e)
  exact ⟨mA, ⟨ob, n, ne⟩, r, q, z, d⟩
end

structure Cls (K : PySem.W.Frag) (C : Addr) : Prop where
  pg : PySem.W.plainGet K C Str.empty = true
  hd : PySem.W.hasDictIn K C = true
  po : PySem.W.plainOver K C = true
  sa : PySem.W.findIn K (.ref C) "__setattr__" = some (some (.builtin "object.__setattr__"))
theorem Cls.get {K : PySem.W.Frag} {C : Addr} (c : Cls K C) (f : Str) : PySem.W.plainGet K C f = true := c.pg
def NoAttr (K : PySem.W.Frag) (C : Addr) (f : Str) : Prop := PySem.W.findIn K (.ref C) f = some none
theorem NoAttr.taker {K : PySem.W.Frag} {C : Addr} {f : Str} (n : NoAttr K C f) : PySem.W.takerIn K C f = some none := by
  unfold PySem.W.takerIn
  rw [show PySem.W.findIn K (.ref C) f = some none from n]
  rfl
structure Meth (K : PySem.W.Frag) (C : Addr) (m : Str) (f : Addr) : Prop where
  at_ : PySem.W.findIn K (.ref C) m = some (some (.ref f))
  fn : PySem.W.isFn K (.ref f) = true
  kp : PySem.W.keepIn K (.ref f) = true

section
variable {X : Cx} {pins : List (Addr × Obj)} {σ : St} {H : Hp} {s : Shared} {a C dx : Addr} {fs : List (Str × V)} {f : Str} {v : V} {A : Around} {E : Value → Shared → Prop}

theorem getattr_ok {b : Bool} {Q : Value → Shared → Prop} (I : Inv X pins σ H s) (e : H a = some (.ins C dx fs)) (c : Cls X.K C) (n : NoAttr X.K C f) (l : fs.lookup f = some v)
    (h : ∀ u s', Inv X pins σ H s' → RelV v u → Q u s') : wpAny (model X.prog X.w) A (getAttr (.ref a) f b) Q E s := by
  obtain ⟨mA, O, r, _, _, _⟩ := ins_get I.hok e
  obtain ⟨u, hu, ru⟩ := RelO.some_of (v := v) (o := mA f) (by rw [← l]; exact r f)
  exact get_map I.kIn O (c.get f) c.hd n hu (handed_of ru) (h u _ (I.tok _) ru)

theorem getmeth_ok {m : Str} {g : Addr} {pl : Sem Bool} {Q : Value × List Value → Shared → Prop} (I : Inv X pins σ H s) (e : H a = some (.ins C dx fs)) (c : Cls X.K C) (k : Meth X.K C m g) (l : fs.lookup m = none)
    (h : Q (.ref g, [.ref a]) s) : wpAny (model X.prog X.w) A (getMethod (.ref a) m pl) Q E s := by
  obtain ⟨mA, O, r, _, _, _⟩ := ins_get I.hok e
  have hn : mA m = none := RelO.none_of (by rw [← l]; exact r m)
  exact get_meth I.kIn O (c.get m) k.at_ k.fn hn h

theorem setattr_ok {y : V} {u : Value} {Q : Unit → Shared → Prop} (I : Inv X pins σ H s) (e : H a = some (.ins C dx fs)) (c : Cls X.K C) (n : NoAttr X.K C f) (hl : fs.length < 1000) (ry : RelV y u)
    (h : ∀ s', Inv X pins σ (upd H a (.ins C dx (putF f y fs))) s' → Q () s') : wpAny (model X.prog X.w) A (setAttr (.ref a) f u) Q E s := by
  obtain ⟨mA, O, r, wi, _, ho⟩ := ins_get I.hok e
  have hz : (fs.map (·.1)).length ≤ sizeLine := by rw [List.length_map, sizeLine_eq]; lia
  refine set_map I.kIn O c.sa c.po n.taker c.hd wi hz fun h' O' sb => h _ ?_
  have hd : ∃ o, h'.get? dx = some o := let ⟨o, _, _, e', _⟩ := O'.ns; ⟨o, e'⟩
  refine I.write (x := a) (e := dx) (by rw [e]; exact True.intro) (.inr ho) (fun b q hb z => (sb.2 b hb).trans z) hd ?_
  refine ⟨by rw [upd_ne O.ne]; exact ho, ?_, O.ne, O'.obj, _, O'.ns, fun g => ?_, fun g hg => ?_⟩
  · have := length_putF f y fs; lia
  · show RelO ((putF f y fs).lookup g) (if g = f then some u else mA g)
    rw [lookup_putF]
    by_cases q : g = f
    · rw [if_pos q, if_pos q]; exact ry
    · rw [if_neg q, if_neg q]; exact r g
  · by_cases q : g = f
    · rw [q]; exact (keys_putF f y fs).1
    · refine (keys_putF f y fs).2 g (wi g fun z => hg ?_)
      show (if g = f then some u else mA g) = none
      rw [if_neg q]; exact z

theorem Inv.made (I : Inv X pins σ H s) : Inv X pins σ (upd (upd H s.heap.objs.size (.own (s.heap.objs.size + 1))) (s.heap.objs.size + 1) (.ins C s.heap.objs.size []))
    { s with heap := (s.heap.push PySem.W.emptyDict).push (PySem.W.instObj C s.heap.objs.size) } := by
  have e1 : (s.heap.push PySem.W.emptyDict).get? s.heap.objs.size = some PySem.W.emptyDict := Heap.get?_push_size s.heap rfl
  have e2 : ((s.heap.push PySem.W.emptyDict).push (PySem.W.instObj C s.heap.objs.size)).get? (s.heap.objs.size + 1) = some (PySem.W.instObj C s.heap.objs.size) := by
    have := Heap.get?_push_size (s.heap.push PySem.W.emptyDict) (o := PySem.W.instObj C s.heap.objs.size) rfl
    rwa [Heap.size_push] at this
  have e3 : (s.heap.push PySem.W.emptyDict).Ns s.heap.objs.size (fun _ => none) := ⟨PySem.W.emptyDict, #[], _, e1, rfl, (fun e he => absurd he (by simp)), fun _ => rfl⟩
  have I1 := I.laid (a := s.heap.objs.size) (o := .own (s.heap.objs.size + 1)) (h' := s.heap.push PySem.W.emptyDict) (t' := s.toks) (fun b u q => Heap.get?_push_of_some _ q) (Nat.le_refl _) ⟨_, e1⟩
  refine I1.laid (a := s.heap.objs.size + 1) (o := .ins C s.heap.objs.size []) (t' := s.toks) (fun b u q => Heap.get?_push_of_some _ q) (Nat.le_of_eq (Heap.size_push _ _)) ?_
  have ne : s.heap.objs.size ≠ s.heap.objs.size + 1 := Nat.ne_of_lt (Nat.lt_succ_self _)
  refine ⟨by rw [upd_ne ne, upd_same], Nat.zero_le _, ne, e2, fun _ => none, (Heap.Ns1.of_empty e3).at fun o q => Heap.get?_push_of_some _ q, fun _ => True.intro, fun y hy => absurd rfl hy⟩

theorem attr_of {prog : Program} {w : World} {env : Env} {e : Expr} {f : Str} {pos : Pos} {s : Shared} {Q : Value → Shared → Prop} (hb : attributeBase e f env (eval e env) = eval e env)
    (h : wpAny (model prog w) A (eval e env) (fun o s₁ => wpAny (model prog w) A (getAttr o f true) Q E s₁) E s) : wpAny (model prog w) A (eval (.Attribute e f pos) env) Q E s :=
  Attribute_any_ h (by rw [arm_eval_Attribute, hb])
end

def tFld (K : PySem.W.Frag) (ta : TE) (f : Str) : TE := fun σ H Q => ta σ H fun x H1 => ∃ a C dx fs v, x = .ref a ∧ H1 a = some (.ins C dx fs) ∧ Cls K C ∧ NoAttr K C f ∧ fs.lookup f = some v ∧ Q v H1
def sFld (K : PySem.W.Frag) (ta tv : TE) (f : Str) : TS := fun D σ H => tv σ H fun y H1 => ta σ H1 fun x H2 => ∃ a C dx fs, x = .ref a ∧ H2 a = some (.ins C dx fs) ∧ Cls K C ∧ NoAttr K C f ∧ fs.length < 1000 ∧
  D.nx σ (upd H2 a (.ins C dx (putF f y fs)))
section
variable {X : Cx} {o e value : Expr} {f : Str} {pos pos' tpos : Pos} {ta tv : TE}
theorem pe_fld (he : PE X e ta) (hb : attributeBase e f X.env (eval e X.env) = eval e X.env) : PE X (.Attribute e f pos) (tFld X.K ta f) := by
  intro pins s σ H Q I h
  refine attr_of hb (thn (he pins s σ H _ I h) fun u s1 ⟨x, H1, I1, rx, a, C, dx, fs, v, ex, ea, c, n, l, q⟩ => ?_)
  subst ex
  obtain rfl : u = Value.ref a := rx
  exact getattr_ok I1 ea c n l fun u' s2 I2 ru => ⟨v, H1, I2, ru, q⟩
theorem ps_fld (ha : PE X o ta) (hv : PE X value tv) (hs : swapsWith value (some (.Attribute o f pos')) pos.line X.env = pure false) : PS X (.Assign [.Attribute o f pos'] value pos) (sFld X.K ta tv f) := by
  intro pins s σ H D I h
  refine plainObj_wpAny_Assign_Attribute (thn (hv pins s σ H _ I h) fun u s1 zq => zq.elim fun y H1 I1 ry q => thn (ha pins s1 σ H1 _ I1 q) fun ov s2 ⟨x, H2, I2, rx, a, C, dx, fs, ex, ea, c, n, l, q2⟩ => ?_) hs
  subst ex
  obtain rfl : ov = Value.ref a := rx
  exact setattr_ok I2 ea c n l ry fun s3 I3 => ⟨σ, _, I3, q2⟩
end

section
variable {X : Cx} {pins : List (Addr × Obj)} {σ : St} {H : Hp} {s : Shared} {A : Around} {E : Value → Shared → Prop} {Q : Value → Shared → Prop} {c : Value} {b : Bool}
inductive TyOf (K : PySem.W.Frag) (H : Hp) : V → Value → Prop where
  | non : TyOf K H .non (.type "NoneType")
  | bl (x : Bool) : TyOf K H (.bl x) (.type "bool")
  | int (i : Int) : TyOf K H (.int i) (.type "int")
  | str (x : Str) : TyOf K H (.str x) (.type "str")
  | flt (x : UInt64) : TyOf K H (.flt x) (.type "float")
  | lst {a : Addr} {xs : List V} (e : H a = some (.lst xs)) : TyOf K H (.ref a) (.type "list")
  | frz {a : Addr} {o : Obj} {xs : List V} (e : H a = some (.frz o (.lst xs))) : TyOf K H (.ref a) (.type "list")
  | tup {a : Addr} {xs : List V} (e : H a = some (.tup xs)) : TyOf K H (.ref a) (.type "tuple")
  | dK {a : Addr} {kvs : List (Key × V)} (e : H a = some (.dK kvs)) : TyOf K H (.ref a) (.type "dict")
  | dT {a : Addr} {kvs : List (List Key × V)} (e : H a = some (.dT kvs)) : TyOf K H (.ref a) (.type "dict")
  | ins {a C dx : Addr} {fs : List (Str × V)} (e : H a = some (.ins C dx fs)) (cl : Cls K C) (ha : PySem.W.findIn K (.ref C) "__class__" = some (some (.builtin "object.__class__")))
      (hn : PySem.W.specialIn K (.builtin "object.__class__") "__get__" = some (some (.builtin "getset_descriptor.__get__"))) (htk : PySem.W.takesIn K (.builtin "object.__class__") = some true)
      (hm : PySem.W.mroIn K C (.type "object") = some true) : TyOf K H (.ref a) (.ref C)
theorem isinst_ok {x : V} {u t : Value} (I : Inv X pins σ H s) (rx : RelV x u) (ty : TyOf X.K H x t) (e : PySem.W.kitOne X.K t c = some b) (h : ∀ tk, Q (.bool b) { s with toks := tk }) :
    wpAny (model X.prog X.w) A (call (.builtin "isinstance") [u, c]) Q E s := by
  cases ty with
  | non => cases (show u = Value.none from rx); exact PySem.W.kia_one PySem.W.kitx_none I.kIn True.intro e (fun z => nomatch z) h
  | bl y => cases (show u = Value.bool y from rx); exact PySem.W.kia_one PySem.W.kitx_bool I.kIn True.intro e (fun z => nomatch z) h
  | int i => obtain ⟨t, q⟩ := (show ∃ t, u = Value.int i t from rx); cases q; exact PySem.W.kia_one PySem.W.kitx_int I.kIn True.intro e (fun z => nomatch z) h
  | str y => obtain ⟨t, q⟩ := (show ∃ t, u = Value.str y t from rx); cases q; exact PySem.W.kia_one PySem.W.kitx_str I.kIn True.intro e (fun z => nomatch z) h
  | flt y => obtain ⟨t, q⟩ := (show ∃ t, u = Value.float y t from rx); cases q; exact PySem.W.kia_one PySem.W.kitx_float I.kIn True.intro e (fun z => nomatch z) h
  | @lst a xs ea =>
    cases (show u = Value.ref a from rx)
    obtain ⟨_, _, n, _, h1⟩ := (show ObjOk X.prog X.w H s.heap a (.lst xs) from I.hok a _ ea)
    exact PySem.W.kia_one PySem.W.kitx_list I.kIn ⟨_, h1, rfl⟩ e (fun z => nomatch z) h
  | @frz a ob xs ea =>
    cases (show u = Value.ref a from rx)
    obtain ⟨_, _, _, n, _, h1⟩ := (show ObjOk X.prog X.w H s.heap a (.frz ob (.lst xs)) from I.hok a _ ea)
    exact PySem.W.kia_one PySem.W.kitx_list I.kIn ⟨_, h1, rfl⟩ e (fun z => nomatch z) h
  | @tup a xs ea =>
    cases (show u = Value.ref a from rx)
    obtain ⟨_, _, _, p⟩ := (show ObjOk X.prog X.w H s.heap a (.tup xs) from I.hok a _ ea)
    obtain ⟨o, h1, h2, _⟩ := p
    exact PySem.W.kia_one PySem.W.kitx_tuple I.kIn ⟨o, h1, h2⟩ e (fun z => nomatch z) h
  | @dK a kvs ea =>
    cases (show u = Value.ref a from rx)
    obtain ⟨_, _, vs, _, p⟩ := (show ObjOk X.prog X.w H s.heap a (.dK kvs) from I.hok a _ ea)
    obtain ⟨o, es, ep, h1, h2, _⟩ := p
    exact PySem.W.kia_one PySem.W.kitx_dict I.kIn ⟨o, h1, h2.1⟩ e (fun z => nomatch z) h
  | @dT a kvs ea =>
    cases (show u = Value.ref a from rx)
    obtain ⟨_, _, xs, _, o, es, ep, h1, h2, _⟩ := (show ObjOk X.prog X.w H s.heap a (.dT kvs) from I.hok a _ ea)
    exact PySem.W.kia_one PySem.W.kitx_dict I.kIn ⟨o, h1, h2.1⟩ e (fun z => nomatch z) h
  | @ins a C dx fs ea cl ha hn htk hm =>
    cases (show u = Value.ref a from rx)
    obtain ⟨mA, O, _⟩ := ins_get I.hok ea
    obtain ⟨od, J, _⟩ := O.look
    exact PySem.W.kia_one (PySem.W.kitx_own (cl.get _) cl.hd ha hn htk hm) I.kIn J e (fun z => nomatch z) h
end
end L2

namespace L2
open PySem PySem.Spec PyProof.Rows

structure Room (k : Nat) (A : Around) : Prop where
  hd : A.handled = none
  dp : A.depth + 3 * k + 5 < recursionLimit
  un : A.units + 16 * k + 200 < cLine
  gd : A.guards = some []
theorem Room.mono {j k : Nat} {A : Around} (r : Room k A) (h : j ≤ k) : Room j A := ⟨r.hd, by have := r.dp; lia, by have := r.un; lia, r.gd⟩
theorem Room.deeper {k : Nat} {A : Around} (r : Room (k + 1) A) (env : Env) : Room k (A.deeper env) :=
  ⟨r.hd, by have := r.dp; show A.depth + 1 + 3 * k + 5 < _; lia, by have := r.un; show A.units + 3 + 16 * k + 200 < _; lia, r.gd⟩
theorem make_depth {A : Around} {C : Addr} {us : List Value} {kw : List (Str × Value)} : (A.under (.builtin "type.__call__" ⟨.ref C :: us, kw⟩)).depth = A.depth + 1 := by
  first | rfl | simp [Around.under, Code.weight, Code.isCreation, Code.isGuard, Code.isCaller, Code.frames, Code.isFrame, guardIds]
theorem make_units {A : Around} {C : Addr} {us : List Value} {kw : List (Str × Value)} : (A.under (.builtin "type.__call__" ⟨.ref C :: us, kw⟩)).units = A.units + 1 := by
  first | rfl | simp [Around.under, Code.cUnits, Code.frames, Code.isFrame]
theorem make_guards {A : Around} {C : Addr} {us : List Value} {kw : List (Str × Value)} : (A.under (.builtin "type.__call__" ⟨.ref C :: us, kw⟩)).guards = A.guards := by
  have e : (Code.builtin "type.__call__" ⟨.ref C :: us, kw⟩).isGuard = false := by show guardIds.contains "type.__call__" = false; decide +kernel
  obtain ⟨a, b, c, g, d⟩ := A
  cases g <;> simp [Around.under, Code.guards, e, pushGuards]
theorem Room.make {k : Nat} {A : Around} (r : Room (k + 1) A) (C : Addr) (us : List Value) (kw : List (Str × Value)) : Room k (A.under (.builtin "type.__call__" ⟨.ref C :: us, kw⟩)) :=
  ⟨r.hd, by have := r.dp; rw [make_depth]; lia, by have := r.un; rw [make_units]; lia, by rw [make_guards]; exact r.gd⟩
theorem Room.depth {k : Nat} {A : Around} (r : Room k A) : A.depth < recursionLimit := by have := r.dp; lia
theorem Room.units {k : Nat} {A : Around} (r : Room k A) : A.units + 64 < cLine := by have := r.un; lia
theorem Room.units0 {k : Nat} {A : Around} (r : Room k A) : A.units < cLine := by have := r.un; lia

def tNil : TA := fun _ H Q => Q [] H
def tCons (ta : TE) (tr : TA) : TA := fun σ H Q => ta σ H fun x H1 => tr σ H1 fun xs H2 => Q (x :: xs) H2
section
variable {X : Cx} {e : Expr} {es : List Expr} {te : TE} {t : TA} {pos : Pos}
theorem pa_nil : PA X [] tNil := fun _ _ _ _ H Q I h => Calls.spliced_nil ⟨[], H, I, .nil, h⟩
theorem pa_cons (ha : PE X e te) (hr : PA X es t) (hs : starEach (e :: es) X.env = (false, eval e X.env) :: starEach es X.env := by rfl) : PA X (e :: es) (tCons te t) := by
  intro pos pins s σ H Q I h
  rw [hs]
  show wpAny _ _ (spliced ((false, eval e X.env) :: backTo pos (starEach es X.env))) _ _ s
  refine Calls.spliced_cons (thn (ha pins s σ H _ I h) fun u s1 zq => zq.elim fun x H1 I1 r1 q1 => ?_)
  exact thn (hr pos pins s1 σ H1 _ I1 q1) fun us s2 zq => zq.elim fun xs H2 I2 r2 q2 => ⟨x :: xs, H2, I2, .cons r1 r2, q2⟩

def tTup (t : TA) : TE := fun σ H Q => t σ H fun xs H1 => xs.length ≤ sizeLine ∧ New H1 (.tup xs) Q
def tLst (t : TA) : TE := fun σ H Q => t σ H fun xs H1 => xs.length ≤ sizeLine ∧ New H1 (.lst xs) Q
theorem pe_tup {x1} (h : PA X es t) : PE X (.Tuple es x1 pos) (tTup t) := by
  intro pins s σ H Q I hq
  refine wpAny_Tuple_spliced (thn (h pos pins s σ H _ I hq) fun us s1 ⟨xs, H1, I1, r, z, q⟩ => ⟨by rw [← r.length]; exact z, ?_⟩)
  have hf : H1 s1.heap.objs.size = none := I1.hok.fresh (Nat.le_refl _)
  refine ⟨.ref s1.heap.objs.size, upd H1 s1.heap.objs.size (.tup xs), I1.laid (t' := s1.toks) (fun b u e => Heap.get?_push_of_some _ e) (Nat.le_refl _) ?_, rfl, q _ hf⟩
  exact ⟨z, us, r, ⟨_, Heap.get?_push_size _ rfl, rfl, _, rfl⟩⟩
theorem pe_lst (h : PA X es t) : PE X (.List es pos) (tLst t) := by
  intro pins s σ H Q I hq
  refine wpAny_List_spliced (thn (h pos pins s σ H _ I hq) fun us s1 ⟨xs, H1, I1, r, z, q⟩ => ⟨by rw [← r.length]; exact z, ?_⟩)
  have hf : H1 s1.heap.objs.size = none := I1.hok.fresh (Nat.le_refl _)
  refine ⟨.ref s1.heap.objs.size, upd H1 s1.heap.objs.size (.lst xs), I1.laid (t' := s1.toks) (fun b u e => Heap.get?_push_of_some _ e) (Nat.le_refl _) ?_, rfl, q _ hf⟩
  exact ⟨z, us, 0, r, Heap.get?_push_size _ rfl⟩
end

abbrev Sp := List V → Hp → VK → XK → Prop
abbrev CXT := List Env → Hp → Shared → XK → Value → Shared → Prop

structure Env0 (P : Program) (w : World) (K : PySem.W.Frag) (mg : Str → Option Value) (base : Heap) (A : Around) (outer : List Env) (s : Shared) (H : Hp) : Prop where
  frames : A.frames = some outer
  mod : Mod K mg base
  bs : ∀ b o, base.get? b = some o → s.heap.get? b = some o ∧ H b = none
  bsz : base.objs.size ≤ s.heap.objs.size
  funs : s.heap.FunFrames base outer
  frf : ∀ b ∈ frs outer, H b = none
  hok : HOk P w H s.heap
  bare : AllBare s.gens
inductive CE (outer : List Env) (P : Program) (w : World) (H : Hp) (s : Shared) (Q : VK) (u : Value) (s' : Shared) : Prop
  | mk (v : V) (H' : Hp) (os : s'.os = s.os) (bare : AllBare s'.gens) (un : Un (frs outer) [] H H' s.heap s'.heap) (hok : HOk P w H' s'.heap) (r : RelV v u) (q : Q v H')
def CR (CX : CXT) (outer : List Env) (P : Program) (w : World) (H : Hp) (s : Shared) (Q : VK) (E : XK) (r : Result) (s' : Shared) : Prop :=
  match r with
  | .ok (.ret u) => CE outer P w H s Q u s'
  | .ok _ => False
  | .error e => CX outer H s E e s'
structure FnOk (P : Program) (w : World) (K : PySem.W.Frag) (mg : Str → Option Value) (base : Heap) (CX : CXT) (k : Nat) (f : Addr) (fd : FuncData) (ps : List Str) (sp : Sp) : Prop where
  len : ∀ vs H Q E, sp vs H Q E → vs.length = ps.length
  run : ∀ (A : Around) (outer : List Env) (s : Shared) (H : Hp) (args : Args) (us : List Value) (vs : List V) (Q : VK) (E : XK), Room k A → Env0 P w K mg base A outer s H → BindsTo s fd args (ps.zip us) → Vals vs us → sp vs H Q E →
    codeAny (model P w) A (.call (.ref f) args) (CR CX outer P w H s Q E) s
theorem FnOk.imp {P : Program} {w : World} {K : PySem.W.Frag} {mg : Str → Option Value} {base : Heap} {CX : CXT} {k : Nat} {f : Addr} {fd : FuncData} {ps : List Str} {sp sp' : Sp} (F : FnOk P w K mg base CX k f fd ps sp)
    (h : ∀ vs H Q E, sp' vs H Q E → sp vs H Q E) : FnOk P w K mg base CX k f fd ps sp' :=
  ⟨fun vs H Q E q => F.len vs H Q E (h _ _ _ _ q), fun A outer s H args us vs Q E hr he hb hv hs => F.run A outer s H args us vs Q E hr he hb hv (h _ _ _ _ hs)⟩

theorem Env0.make {P : Program} {w : World} {K : PySem.W.Frag} {mg : Str → Option Value} {base : Heap} {A : Around} {outer : List Env} {s : Shared} {H : Hp} (e : Env0 P w K mg base A outer s H) (C : Addr) (us : List Value) (kw : List (Str × Value)) :
    Env0 P w K mg base (A.under (.builtin "type.__call__" ⟨.ref C :: us, kw⟩)) outer s H := ⟨by first | exact e.frames | (simpa [Around.under, Code.envs, Code.isFrame, pushEnvs] using e.frames), e.mod, e.bs, e.bsz, e.funs, e.frf, e.hok, e.bare⟩
section
variable {X : Cx} {pins : List (Addr × Obj)} {σ : St} {H : Hp} {s s' : Shared}
theorem Inv.env0 (I : Inv X pins σ H s) : Env0 X.prog X.w X.K X.mg X.base X.A X.stack s H :=
  ⟨I.ok.frames, I.ok.mod, I.bs, Nat.le_trans I.ok.bsz I.sz, I.stack, I.stkFree, I.hok, I.bare⟩
theorem Inv.after {Q : VK} {u : Value} (I : Inv X pins σ H s) (h : CE X.stack X.prog X.w H s Q u s') : EP X pins σ Q u s' := by
  obtain ⟨v, H', os, bare, un, hok, r, q⟩ := h
  obtain ⟨hh, g, d, t, os'⟩ := s'
  obtain rfl : os' = s.os := os
  exact ⟨v, H', I.call (h' := hh) (g' := g) (d' := d) (t' := t) (ch := []) un hok bare (fun b z => absurd z (by simp)), r, q⟩
end

def tCall (sp : Sp) (dvs : List V) (E : XK) (t : TA) : TE := fun σ H Q => t σ H fun vs H1 => sp (vs ++ dvs) H1 Q E
def tMeth (C : Addr) (m : Str) (sp : Sp) (dvs : List V) (E : XK) (ta : TE) (t : TA) : TE := fun σ H Q => ta σ H fun x H1 => ∃ a dx fs, x = .ref a ∧ H1 a = some (.ins C dx fs) ∧ fs.lookup m = none ∧
  t σ H1 fun vs H2 => sp (x :: (vs ++ dvs)) H2 Q E
def tMake (C : Addr) (sp : Sp) (dvs : List V) (E : XK) (t : TA) : TE := fun σ H Q => t σ H fun vs H1 => ∀ x dx, H1 x = none → H1 dx = none → dx ≠ x →
  sp (.ref x :: (vs ++ dvs)) (upd (upd H1 dx (.own x)) x (.ins C dx [])) (fun v H2 => v = .non ∧ Q (.ref x) H2) E

def Binds (K : PySem.W.Frag) (fd : FuncData) (ps : List Str) (ds : List Value) : Prop :=
  ∀ (s : Shared) (us : List Value), K.In s.heap → (us ++ ds).length = ps.length → BindsTo s fd ⟨us, []⟩ (ps.zip (us ++ ds))
theorem Binds.all {K : PySem.W.Frag} {fd : FuncData} {ps : List Str} (h : ∀ us : List Value, us.length = ps.length → bindArgs fd ⟨us, []⟩ = pure (ps.zip us)) : Binds K fd ps [] := fun s us _ hl => by
  rw [List.append_nil] at hl ⊢
  exact .of_eq (h us hl)

def Passes (CX : CXT) (X : Cx) (E : XK) : Prop := ∀ (pins : List (Addr × Obj)) (σ : St) (H : Hp) (s : Shared) (e : Value) (s' : Shared), Inv X pins σ H s → CX X.stack H s E e s' → X.xe e s'

section
variable {X : Cx} {CX : CXT} {k : Nat} {f C : Addr} {fd : FuncData} {ps : List Str} {sp : Sp} {dvs : List V} {ds : List Value} {E : XK} {x m : Str} {p pos apos : Pos} {e o : Expr} {es : List Expr} {ta : TE} {t : TA}

theorem run_fn {pins : List (Addr × Obj)} {σ : St} {H : Hp} {s : Shared} {Q : VK} {us : List Value} {vs : List V} (F : FnOk X.prog X.w X.K X.mg X.base CX k f fd ps sp) (hr : Room k X.A) (hb : Binds X.K fd ps ds) (hd : Vals dvs ds) (hx : Passes CX X E)
    (I : Inv X pins σ H s) (r : Vals vs us) (h : sp (vs ++ dvs) H Q E) : wpAny (model X.prog X.w) X.A (call (.ref f) us) (EP X pins σ Q) X.xe s := by
  have r2 : Vals (vs ++ dvs) (us ++ ds) := r.append hd
  have hl : (us ++ ds).length = ps.length := by rw [← r2.length]; exact F.len _ _ _ _ h
  refine wpAny_call (codeAny_mono (F.run X.A X.stack s H ⟨us, []⟩ (us ++ ds) (vs ++ dvs) Q E hr I.env0 (hb s us I.kIn hl) r2 h) fun r s' hq => ?_)
  cases r with
  | error e => exact hx pins σ H s e s' I hq
  | ok fl =>
    cases fl with
    | ret u => exact I.after hq
    | next => exact False.elim hq
    | brk => exact False.elim hq
    | cont => exact False.elim hq

theorem pe_call (F : FnOk X.prog X.w X.K X.mg X.base CX k f fd ps sp) (hr : Room k X.A) (hg : Gl X x) (hm : X.mg x = some (.ref f)) (hk : PySem.W.keepIn X.K (.ref f) = true) (hb : Binds X.K fd ps ds) (hd : Vals dvs ds) (hx : Passes CX X E)
    (ha : PA X (e :: es) t) (hdb : (x == ("__debug__" : Str)) = false := by decide) (he : starEach (e :: es) X.env = (false, eval e X.env) :: starEach es X.env := by rfl) (hpl : (backTo pos (starEach es X.env)).any (·.1) = false := by rfl) :
    PE X (.Call (.Name x p) (e :: es) [] pos) (tCall sp dvs E t) := by
  intro pins s σ H Q I h
  refine wpAny_Call_Name_kw (ld_glob I hg hm ?_ hdb)
  refine PySem.W.callWith_K (h₀ := X.base) I.ok.mod.kin hk (thn (ha pos pins s σ H _ I h) fun us s1 zq => zq.elim fun vs H1 I1 r q => ⟨I1.kIn, ?_⟩) he hpl
  exact run_fn F hr hb hd hx I1 r q
theorem pe_meth {pl : Sem Bool} (he : PE X o ta) (c : Cls X.K C) (hm : Meth X.K C m f) (F : FnOk X.prog X.w X.K X.mg X.base CX k f fd ps sp) (hr : Room k X.A) (hb : Binds X.K fd ps ds) (hd : Vals dvs ds) (hx : Passes CX X E) (ha : PA X (e :: es) t)
    (hst : starEach (e :: es) X.env = (false, eval e X.env) :: starEach es X.env := by rfl) (hpl : (backTo pos (starEach es X.env)).any (·.1) = false := by rfl)
    (ht : eval (.Call (.Attribute o m apos) (e :: es) [] pos) X.env = (do
      let ov ← eval o X.env
      standAt apos.atName
      let (f, first) ← holding [ov] (getMethod ov m pl)
      callWith pos f first (backTo pos (starEach (e :: es) X.env)) (backToKw pos (keywordEach [] X.env))) := by rfl) :
    PE X (.Call (.Attribute o m apos) (e :: es) [] pos) (tMeth C m sp dvs E ta t) := by
  intro pins s σ H Q I h
  refine PySem.W.methodCall_KW (pl := pl) (thn (he pins s σ H _ I h) fun u s1 ⟨x, H1, I1, rx, a, dx, fs, ex, ea, l, q⟩ => ?_) ht
  subst ex
  obtain rfl : u = Value.ref a := rx
  refine getmeth_ok I1 ea c hm l ?_
  refine PySem.W.callWith_K (first := [.ref a]) (h₀ := X.base) I.ok.mod.kin hm.kp (thn (ha pos pins s1 σ H1 _ I1 q) fun us s2 zq => zq.elim fun vs H2 I2 r q2 => ⟨I2.kIn, ?_⟩) hst hpl
  exact run_fn (us := .ref a :: us) (vs := .ref a :: vs) F hr hb hd hx I2 (.cons rfl r) q2
theorem pe_meth0 {pl : Sem Bool} (he : PE X o ta) (c : Cls X.K C) (hm : Meth X.K C m f) (F : FnOk X.prog X.w X.K X.mg X.base CX k f fd ps sp) (hr : Room k X.A) (hb : Binds X.K fd ps ds) (hd : Vals dvs ds) (hx : Passes CX X E)
    (ht : eval (.Call (.Attribute o m apos) [] [] pos) X.env = (do
      let ov ← eval o X.env
      standAt apos.atName
      let (f, first) ← holding [ov] (getMethod ov m pl)
      callWith pos f first (backTo pos (starEach [] X.env)) (backToKw pos (keywordEach [] X.env))) := by rfl) :
    PE X (.Call (.Attribute o m apos) [] [] pos) (tMeth C m sp dvs E ta tNil) := by
  intro pins s σ H Q I h
  refine PySem.W.methodCall_KW (pl := pl) (thn (he pins s σ H _ I h) fun u s1 ⟨x, H1, I1, rx, a, dx, fs, ex, ea, l, q⟩ => ?_) ht
  subst ex
  obtain rfl : u = Value.ref a := rx
  refine getmeth_ok I1 ea c hm l ?_
  exact PySem.W.callWith_K0 (first := [.ref a]) I1.kIn hm.kp (run_fn (us := [.ref a]) (vs := [.ref a]) F hr hb hd hx I1 (.cons rfl .nil) q)

structure Mk (K : PySem.W.Frag) (C f : Addr) : Prop where
  makes : PySem.W.makesIn K C = true
  init : PySem.W.findIn K (.ref C) "__init__" = some (some (.ref f))
  fn : PySem.W.isFn K (.ref f) = true
  kp : PySem.W.keepIn K (.ref C) = true

theorem run_make {pins : List (Addr × Obj)} {σ : St} {H : Hp} {s : Shared} {Q : VK} {us : List Value} {vs : List V} (M : Mk X.K C f) (F : FnOk X.prog X.w X.K X.mg X.base CX k f fd ps sp) (hr : Room (k + 1) X.A) (hb : Binds X.K fd ps ds) (hd : Vals dvs ds)
    (hx : Passes CX X E) (I : Inv X pins σ H s) (r : Vals vs us)
    (h : ∀ x dx, H x = none → H dx = none → dx ≠ x → sp (.ref x :: (vs ++ dvs)) (upd (upd H dx (.own x)) x (.ins C dx [])) (fun v H2 => v = .non ∧ Q (.ref x) H2) E) :
    wpAny (model X.prog X.w) X.A (call (.ref C) us) (EP X pins σ Q) X.xe s := by
  have hq := h (s.heap.objs.size + 1) s.heap.objs.size (I.hok.fresh (Nat.le_succ _)) (I.hok.fresh (Nat.le_refl _)) (Nat.ne_of_lt (Nat.lt_succ_self _))
  have I2 := Inv.made (C := C) I
  have r2 : Vals (V.ref (s.heap.objs.size + 1) :: (vs ++ dvs)) (Value.ref (s.heap.objs.size + 1) :: (us ++ ds)) := .cons rfl (r.append hd)
  have hl : (Value.ref (s.heap.objs.size + 1) :: us ++ ds).length = ps.length := by
    have e := r2.length
    rw [F.len _ _ _ _ hq] at e
    exact e.symm
  refine wpAny_call (make_map (f := f) I.kIn M.makes M.init (beq_iff_eq.mp M.fn) (codeAny_mono (F.run _ X.stack _ _ ⟨Value.ref (s.heap.objs.size + 1) :: us, []⟩ (Value.ref (s.heap.objs.size + 1) :: (us ++ ds)) _ _ E (hr.make C us [])
    (I2.env0.make C us []) (hb _ (Value.ref (s.heap.objs.size + 1) :: us) I2.kIn hl) r2 hq) fun r s' hq' => ?_))
  cases r with
  | error e => exact hx pins σ _ _ e s' I2 hq'
  | ok fl =>
    cases fl with
    | ret u =>
      obtain ⟨v, H', I3, rv, ev, q3⟩ := I2.after hq'
      subst ev
      exact ⟨rv, ⟨V.ref (s.heap.objs.size + 1), H', I3, rfl, q3⟩⟩
    | next => exact False.elim hq'
    | brk => exact False.elim hq'
    | cont => exact False.elim hq'
theorem pe_make (M : Mk X.K C f) (F : FnOk X.prog X.w X.K X.mg X.base CX k f fd ps sp) (hr : Room (k + 1) X.A) (hg : Gl X x) (hm : X.mg x = some (.ref C)) (hb : Binds X.K fd ps ds) (hd : Vals dvs ds) (hx : Passes CX X E)
    (ha : PA X (e :: es) t) (hdb : (x == ("__debug__" : Str)) = false := by decide) (he : starEach (e :: es) X.env = (false, eval e X.env) :: starEach es X.env := by rfl) (hpl : (backTo pos (starEach es X.env)).any (·.1) = false := by rfl) :
    PE X (.Call (.Name x p) (e :: es) [] pos) (tMake C sp dvs E t) := by
  intro pins s σ H Q I h
  refine wpAny_Call_Name_kw (ld_glob I hg hm ?_ hdb)
  refine PySem.W.callWith_K (h₀ := X.base) I.ok.mod.kin M.kp (thn (ha pos pins s σ H _ I h) fun us s1 zq => zq.elim fun vs H1 I1 r q => ⟨I1.kIn, ?_⟩) he hpl
  exact run_make M F hr hb hd hx I1 r q
end

section
variable {X : Cx} {CX : CXT} {k : Nat} {f C : Addr} {fd : FuncData} {ps ks : List Str} {sp : Sp} {E : XK} {x m : Str} {p pos apos kpos : Pos} {e o : Expr} {es : List Expr} {kws : List Keyword} {te ta : TE} {t tk : TA} {nm : Option Str}
variable {g : List Value → List Value → List Value} {gV : List V → List V → List V}
end

structure FnScope (N P : List Str) (sc : Scope) : Prop where
  kind : sc.kind = .function := by rfl
  co : sc.isCoroutine = false := by rfl
  gen : sc.isGenerator = false := by rfl
  nd : N.Nodup := by decide +kernel
  pre : N.take P.length = P := by rfl
  par : ∀ x ∈ P, sc.names.lookup x = some .local ∨ sc.names.lookup x = some .cell := by decide +kernel
  nofree : ∀ y ∈ sc.names, y.2 ≠ .free := by decide +kernel

theorem bindL_out {kindOf : Str → Option NameKind} {x : Str} : ∀ {binds : List (Str × Value)} {m : Str → Option Value}, (∀ v, (x, v) ∉ binds) → bindL kindOf binds m x = m x
  | [], _, _ => rfl
  | (n, v) :: r, m, h => by
    unfold bindL
    rw [bindL_out fun w hw => h w (List.mem_cons_of_mem _ hw)]
    split
    · have : x ≠ n := by rintro rfl; exact h v List.mem_cons_self
      simp [this]
    · rfl
theorem bindC_out {kindOf : Str → Option NameKind} {x : Str} : ∀ {binds : List (Str × Value)} {m : Str → Option Value}, (∀ v, (x, v) ∉ binds) → bindC kindOf binds m x = m x
  | [], _, _ => rfl
  | (n, v) :: r, m, h => by
    unfold bindC
    rw [bindC_out fun w hw => h w (List.mem_cons_of_mem _ hw)]
    split
    · rfl
    · have : x ≠ n := by rintro rfl; exact h v List.mem_cons_self
      simp [this]
theorem bindL_get {kindOf : Str → Option NameKind} {x : Str} {v : Value} : ∀ {P : List Str} {vs : List Value} {i : Nat} {m : Str → Option Value}, P.Nodup → P[i]? = some x → vs[i]? = some v → kindOf x = some .local →
    bindL kindOf (P.zip vs) m x = some v
  | [], _, _, _, _, h, _, _ => by simp at h
  | _ :: _, [], _, _, _, _, h, _ => by simp at h
  | p :: P, w :: vs, 0, m, nd, h1, h2, hk => by
    simp at h1 h2; subst h1; subst h2
    show bindL kindOf ((p, w) :: P.zip vs) m p = _
    unfold bindL
    rw [bindL_out fun v hv => (List.nodup_cons.mp nd).1 (List.of_mem_zip hv).1, if_pos hk]
    simp
  | p :: P, w :: vs, i + 1, m, nd, h1, h2, hk => by
    show bindL kindOf ((p, w) :: P.zip vs) m x = _
    unfold bindL
    exact bindL_get (i := i) (List.nodup_cons.mp nd).2 (by simpa using h1) (by simpa using h2) hk
theorem bindC_get {kindOf : Str → Option NameKind} {x : Str} {v : Value} : ∀ {P : List Str} {vs : List Value} {i : Nat} {m : Str → Option Value}, P.Nodup → P[i]? = some x → vs[i]? = some v → kindOf x ≠ some .local →
    bindC kindOf (P.zip vs) m x = some v
  | [], _, _, _, _, h, _, _ => by simp at h
  | _ :: _, [], _, _, _, _, h, _ => by simp at h
  | p :: P, w :: vs, 0, m, nd, h1, h2, hk => by
    simp at h1 h2; subst h1; subst h2
    show bindC kindOf ((p, w) :: P.zip vs) m p = _
    unfold bindC
    rw [bindC_out fun v hv => (List.nodup_cons.mp nd).1 (List.of_mem_zip hv).1, if_neg hk]
    simp
  | p :: P, w :: vs, i + 1, m, nd, h1, h2, hk => by
    show bindC kindOf ((p, w) :: P.zip vs) m x = _
    unfold bindC
    exact bindC_get (i := i) (List.nodup_cons.mp nd).2 (by simpa using h1) (by simpa using h2) hk

def start (N : List Str) (vs : List V) : St := vs.map some ++ List.replicate (N.length - vs.length) none

def cxOf (CX : CXT) (P : Program) (w : World) (K : PySem.W.Frag) (mg : Str → Option Value) (base : Heap) (N : List Str) (qual : Str) (scope : Scope) (f : Addr) (cd : Value) (A : Around) (outer : List Env) (s : Shared) (H : Hp) (E : XK) : Cx where
  prog := P
  w := w
  K := K
  mg := mg
  base := base
  A := A.deeper (envOfC qual scope s.heap.objs.size f cd)
  N := N
  s₀ := s
  H₀ := H
  env := envOfC qual scope s.heap.objs.size f cd
  outer := outer
  stack := envOfC qual scope s.heap.objs.size f cd :: outer
  ex := []
  calm := true
  fn := fun _ => true
  pn := []
  xe := fun e s' => wpAny (model P w) (A.deeper (envOfC qual scope s.heap.objs.size f cd)) (leaving (envOfC qual scope s.heap.objs.size f cd) e) (fun _ s'' => CX outer H s E e s'') (fun e' s'' => CX outer H s E e' s'') s'

theorem cell_has {sc : Scope} {n : Nat} {x : Str} (h : sc.names.lookup x = some .cell) : ∃ c, (cellsFrom n sc.names []).lookup x = some c := by
  have q := PySem.W.cellsFrom_some sc.names n [] (.inl h)
  exact Option.isSome_iff_exists.mp q

theorem inv_start {CX : CXT} {P : Program} {w : World} {K : PySem.W.Frag} {mg : Str → Option Value} {base : Heap} {N ps : List Str} {qual : Str} {scope : Scope} {f : Addr} {cd : Value} {A : Around} {outer : List Env} {s s1 : Shared} {H : Hp} {E : XK} {us : List Value} {vs : List V}
    (S : FnScope N ps scope) (hd : A.handled = none) (e0 : Env0 P w K mg base A outer s H) (hl : vs.length = ps.length) (r : Vals vs us)
    (x : InCallC s s.heap.objs.size (bindL (envOfC qual scope s.heap.objs.size f cd).kindOf (ps.zip us) fun _ => none) (cellsFrom (s.heap.objs.size + 1) scope.names []) (bindC (envOfC qual scope s.heap.objs.size f cd).kindOf (ps.zip us) fun _ => none) s1) :
    Inv (cxOf CX P w K mg base N qual scope f cd A outer s H E) [] (start N vs) H s1 := by
  have hpl : ps.length ≤ N.length := by have := congrArg List.length S.pre; rw [List.length_take] at this; lia
  obtain ⟨h1, tk, rfl, hk⟩ := x.done
  have noA : ∀ b : Addr, b ∉ (cxOf CX P w K mg base N qual scope f cd A outer s H E).ex := fun b z => absurd (show b ∈ ([] : List Addr) from z) (by simp)
  refine ⟨⟨e0.mod, S.kind, rfl, rfl, Nat.le_refl _, fun y z c h1 h2 => ?_, fun y hy => ?_, fun y c _ h => ?_, fun _ => hd, Around.frames_deeper e0.frames, .inr ⟨rfl, rfl⟩, fun b z => absurd z (noA b), e0.bs, e0.bsz, fun b _ _ => noA b, fun b z => absurd z (noA b), e0.funs, e0.frf⟩,
    rfl, e0.bare, Un.kept hk, ⟨_, x.toInCall.ns, fun i y v h1 h2 h3 => ?_⟩, fun y c h => ⟨_, x.cell y c h⟩, e0.hok.fresh (Nat.le_refl _), fun y c h => ?_, fun p hp => absurd (show p ∈ ([] : List (Addr × Obj)) from hp) (by simp), e0.hok.kept hk, ?_⟩
  · exact name_of_addr x.apart (PySem.mem_of_lookup h1) (PySem.mem_of_lookup h2)
  · have hy : scope.names.lookup y = some .cell ∨ scope.names.lookup y = some .free := hy
    rcases hy with hy | hy
    · exact cell_has hy
    · exact absurd rfl (S.nofree _ (PySem.mem_of_lookup hy))
  · exact Nat.le_of_lt (x.above y c (PySem.mem_of_lookup h))
  · have hi : i < vs.length := by
      unfold start at h2
      by_cases hi : i < vs.length
      · exact hi
      · rw [List.getElem?_append_right (by simpa using hi)] at h2
        rw [List.getElem?_replicate] at h2
        split at h2 <;> cases h2
    have ha : vs[i]? = some v := by
      unfold start at h2
      rw [List.getElem?_append_left (by simpa using hi), List.getElem?_map] at h2
      cases e : vs[i]? with
      | none => rw [e] at h2; cases h2
      | some a => rw [e] at h2; cases h2; rfl
    obtain ⟨u, hu, rv⟩ := r.get ha
    have hp : ps[i]? = some y := by
      rw [← S.pre, List.getElem?_take_of_lt (by lia)]; exact h1
    have ndP : ps.Nodup := by rw [← S.pre]; exact S.nd.sublist (List.take_sublist _ _)
    refine ⟨u, rv, ?_⟩
    rcases S.par y (List.mem_of_getElem? hp) with k | k
    · exact .inl ⟨k, bindL_get ndP hp hu k⟩
    · obtain ⟨c, e⟩ := cell_has (n := s.heap.objs.size + 1) k
      refine .inr ⟨.inl k, c, e, ?_⟩
      have q := x.cell y c e
      rw [bindC_get ndP hp hu (by show scope.names.lookup y ≠ _; rw [k]; decide)] at q
      exact q
  · exact e0.hok.fresh (Nat.le_of_lt (x.above y c (PySem.mem_of_lookup h)))
  · unfold start
    show _ = N.length
    rw [List.length_append, List.length_map, List.length_replicate]
    lia

theorem fn_of {CX : CXT} {P : Program} {w : World} {K : PySem.W.Frag} {mg : Str → Option Value} {base : Heap} {k : Nat} {f : Addr} {name qual : Str} {params : Arguments} {body : List Stmt} {scope : Scope} {dV kV doc pm cdv ct oc : Value} {an od : Option Addr}
    {osl : Array (Option Value)} {N ps : List Str} {sp : Sp} (lk : K.lookup f = some ⟨oc, od, .func (PySem.W.fnOf name qual params body scope dV kV doc pm an cdv ct), osl⟩) (hcd : PySem.W.codeIn K cdv qual = true) (S : FnScope N ps scope)
    (len : ∀ vs H Q E, sp vs H Q E → vs.length = ps.length)
    (hbody : ∀ (A : Around) (outer : List Env) (s : Shared) (H : Hp) (vs : List V) (Q : VK) (E : XK), Room k (A.deeper (envOfC qual scope s.heap.objs.size f cdv)) → sp vs H Q E →
      ∃ t, PSs (cxOf CX P w K mg base N qual scope f cdv A outer s H E) body t ∧ t { nx := fun _ H' => Q .non H', rt := Q } (start N vs) H) :
    FnOk P w K mg base CX (k + 1) f (PySem.W.fnOf name qual params body scope dV kV doc pm an cdv ct) ps sp := by
  refine ⟨len, fun A outer s H args us vs Q E hr e0 hb r hsp => ?_⟩
  have hl := len _ _ _ _ hsp
  have KX : K.In s.heap := e0.mod.kin.keeps fun b o e => (e0.bs b o e).1
  have lim : s.heap.NoLimit := e0.mod.nolimit.keeps fun b o e => (e0.bs b o e).1
  have hkind : ∀ y ∈ ps.zip us, scope.names.lookup y.1 = some .local ∨ (scope.names.lookup y.1 = some .cell ∧ ((cellsFrom (s.heap.objs.size + 1) scope.names []).lookup y.1).isSome = true) := fun ⟨n, v⟩ hy => by
    rcases S.par n (List.of_mem_zip hy).1 with q | q
    · exact .inl q
    · exact .inr ⟨q, PySem.W.cellsFrom_some _ _ _ (.inl q)⟩
  refine codeAny_call_function hr.depth (KX _ _ lk) rfl S.co S.gen rfl (PySem.W.codeRec_of KX hcd) (hb _ _ _ _ ?_)
  refine wpAny_newFunctionEnv_cells S.kind hkind fun env he s1 x => ?_
  subst he
  refine ⟨lim.keeps x.toInCall.keep, codeAny_func ?_⟩
  obtain ⟨t, ht, hq⟩ := hbody A outer s H vs Q E (hr.deeper _) hsp
  have I : Inv (cxOf CX P w K mg base N qual scope f cdv A outer s H E) [] (start N vs) H s1 := inv_start S hr.hd e0 hl r x
  refine wpAny_mono (ht [] s1 (start N vs) H _ I hq) (fun fl s' hs => ?_) fun e s' hs => hs
  have fin : ∀ {σ' : St} {H' : Hp} {v : V} {u : Value}, Inv (cxOf CX P w K mg base N qual scope f cdv A outer s H E) [] σ' H' s' → RelV v u → Q v H' → CE outer P w H s Q u s' :=
    fun {σ' H' v u} J rv q => ⟨v, H', J.os, J.bare, J.base, J.hok, rv, q⟩
  cases fl with
  | ret u =>
    obtain ⟨v, σ', H', J, rv, q⟩ := hs
    exact fin J rv q
  | next =>
    obtain ⟨σ', H', J, q⟩ := hs
    exact fin (v := V.non) (u := Value.none) J rfl q
  | brk =>
    obtain ⟨_, _, _, q⟩ := hs
    exact False.elim q
  | cont =>
    obtain ⟨_, _, _, q⟩ := hs
    exact False.elim q
end L2

namespace L2
open PySem PySem.Spec PyProof.Rows
section
variable {X : Cx} {x : Str} {p pos : Pos} {e : Expr} {es : List Expr} {t : TA} {id T : String} {r : List V → Hp → VK → Prop}

def tCB (r : List V → Hp → VK → Prop) (t : TA) : TE := fun σ H Q => t σ H fun vs H1 => r vs H1 Q
theorem pe_callB (hc : CallR X (.builtin id) r) (hg : Gl X x) (hm : X.mg x = none) (hv : bootBuiltins x = some (.builtin id)) (ha : PA X (e :: es) t) (hn : x ≠ "__name__" := by decide) (hdb : (x == ("__debug__" : Str)) = false := by decide)
    (he : starEach (e :: es) X.env = (false, eval e X.env) :: starEach es X.env := by rfl) (hpl : (backTo pos (starEach es X.env)).any (·.1) = false := by rfl) : PE X (.Call (.Name x p) (e :: es) [] pos) (tCB r t) := by
  intro pins s σ H Q I h
  refine wpAny_Call_Name_kw (ld_blt I hg hm hv ?_ hn hdb)
  exact PyProof.Rows.callWith_builtin1 (thn (ha pos pins s σ H _ I h) fun us s1 zq => zq.elim fun vs H1 I1 r1 q1 => hc pins s1 σ H1 vs us Q I1 r1 q1) he hpl
theorem pe_callTy (hc : CallR X (.type T) r) (hg : Gl X x) (hm : X.mg x = none) (hv : bootBuiltins x = some (.type T)) (ha : PA X (e :: es) t) (hn : x ≠ "__name__" := by decide) (hdb : (x == ("__debug__" : Str)) = false := by decide)
    (he : starEach (e :: es) X.env = (false, eval e X.env) :: starEach es X.env := by rfl) (hpl : (backTo pos (starEach es X.env)).any (·.1) = false := by rfl) : PE X (.Call (.Name x p) (e :: es) [] pos) (tCB r t) := by
  intro pins s σ H Q I h
  refine wpAny_Call_Name_kw (ld_blt I hg hm hv ?_ hn hdb)
  exact PyProof.Rows.callWith_type1 (thn (ha pos pins s σ H _ I h) fun us s1 zq => zq.elim fun vs H1 I1 r1 q1 => hc pins s1 σ H1 vs us Q I1 r1 q1) he hpl
end
end L2

namespace HT
open PySem PyProof.Rows

section
open PySem.SeqAt
open PySem.AutoSeq1 (wpAny_loadPart')
open PySem.MeetsSeq PySem.MeetsSeq2 PySem.MeetsSeq3

end

section
variable {prog : Program} {w : World} {A : Around} {E : Value → Shared → Prop} {s : Shared}

def sIx (n d : Nat) : Option Int → Nat
  | none => d
  | some v => if v < 0 then (v + (n : Int)).toNat else min v.toNat n
theorem sIx_nat (n d k : Nat) : sIx n d (some (k : Int)) = min k n := by
  show (if (k : Int) < 0 then ((k : Int) + (n : Int)).toNat else min (k : Int).toNat n) = min k n
  rw [if_neg (by lia), Int.toNat_natCast]
end
end HT

namespace L2
open PySem PySem.Spec PyProof.Rows

abbrev TO := St → Hp → (Option Int → Hp → Prop) → Prop
def PO (X : Cx) (e : Option Expr) (t : TO) : Prop :=
  ∀ (pins : List (Addr × Obj)) (s : Shared) (σ : St) (H : Hp) (Q : Option Int → Hp → Prop), Inv X pins σ H s → t σ H Q →
    wpAny (model X.prog X.w) X.A (evalPart e X.env) (fun u s' => ∃ o H', Inv X pins σ H' s' ∧ IsPart u o ∧ Q o H') X.xe s
def tNoPart : TO := fun _ H Q => Q none H
def tPart (t : TE) : TO := fun σ H Q => t σ H fun x H1 => PtQ x H1 Q

section
variable {X : Cx} {e : Expr} {te : TE} {lo hi : Option Expr} {tl th : TO} {pos p2 : Pos}

theorem po_none : PO X none tNoPart := by
  intro pins s σ H Q I h
  rw [evalPart_none]
  exact wpAny_pure ⟨none, H, I, .none, h⟩
theorem po_some (h : PE X e te) : PO X (some e) (tPart te) := by
  intro pins s σ H Q I hw
  rw [evalPart_some]
  refine thn (h pins s σ H _ I hw) fun u s1 zq => zq.elim fun x H1 I1 r1 q1 => ?_
  obtain ⟨i, rfl, q⟩ := q1
  obtain ⟨t, rfl⟩ := r1
  exact ⟨some i, H1, I1, .int i t, q⟩

def SlR (X : Cx) (r : V → Option Int → Option Int → Hp → VK → Prop) : Prop :=
  ∀ (pins : List (Addr × Obj)) (s : Shared) (σ : St) (H : Hp) (x : V) (v vl vu : Value) (lo hi : Option Int) (sl : Addr) (Q : VK), Inv X pins σ H s → RelV x v → s.heap.IsSliceOf sl vl vu .none → IsPart vl lo → IsPart vu hi → r x lo hi H Q →
    ∃ T id, typeLookup (.type T) "__getitem__" = pure (some (.builtin id)) ∧ s.TypeIs v T ∧ wpAny (model X.prog X.w) X.A (getItem v (.ref sl)) (EP X pins σ Q) X.xe s
def tSl (r : V → Option Int → Option Int → Hp → VK → Prop) (te : TE) (tl th : TO) : TE := fun σ H Q => te σ H fun x H1 => tl σ H1 fun l H2 => th σ H2 fun u H3 => r x l u H3 Q
theorem pe_slice {r : V → Option Int → Option Int → Hp → VK → Prop} (hr : SlR X r) (he : PE X e te) (hl : PO X lo tl) (hu : PO X hi th) : PE X (.Subscript e (.Slice lo hi none p2) pos) (tSl r te tl th) := by
  intro pins s σ H Q I h
  refine Subscript_ (thn (he pins s σ H _ I h) fun v s1 zq => zq.elim fun x H1 I1 r1 q1 => ?_)
  refine wpAny_Slice (thn (hl pins s1 σ H1 _ I1 q1) fun vl s2 ⟨l, H2, I2, pl, q2⟩ => thn (hu pins s2 σ H2 _ I2 q2) fun vu s3 ⟨u, H3, I3, pu, q3⟩ => ?_)
  rw [evalPart_none]
  refine wpAny_pure ?_
  have I4 : Inv X pins σ H3 { s3 with heap := s3.heap.push { cls := .type "slice", data := .fields #[vl, vu, .none] } } := I3.kept (t' := s3.toks) fun b ob q => Heap.get?_push_of_some _ q
  obtain ⟨T, id, hT, ht, hg⟩ := hr pins { s3 with heap := s3.heap.push { cls := .type "slice", data := .fields #[vl, vu, .none] } } σ H3 x v vl vu l u s3.heap.objs.size Q I4 r1 (Heap.IsSliceOf.new ..) pl pu q3
  show wpAny (model X.prog X.w) X.A (subscriptTail e (.Slice lo hi none p2) v (.ref s3.heap.objs.size)) (EP X pins σ Q) X.xe { s3 with heap := s3.heap.push { cls := .type "slice", data := .fields #[vl, vu, .none] } }
  exact tail_any (ops := [.ref s3.heap.objs.size, v]) ht hT hg (by with_unfolding_all rfl)

def cutV (xs : List V) (lo hi : Option Int) : List V := (xs.drop (HT.sIx xs.length 0 lo)).take (HT.sIx xs.length xs.length hi - HT.sIx xs.length 0 lo)
theorem cutV_length (xs : List V) (lo hi : Option Int) : (cutV xs lo hi).length ≤ xs.length := by
  unfold cutV
  rw [List.length_take, List.length_drop]
  lia
end
end L2

namespace L2
open PySem PySem.Spec PyProof.Rows

def ixN (n : Nat) (i : Int) : Option Nat := if 0 ≤ i then (if i < n then some i.toNat else none) else if -(n : Int) ≤ i then some (i + n).toNat else none
def atI {α : Type} (xs : List α) (i : Int) : Option α := (ixN xs.length i).bind fun j => xs[j]?
theorem ixN_seq {n : Nat} {i : Int} {j : Nat} (h : ixN n i = some j) : seqIndex? i n = some j ∧ j < n ∧ -(n : Int) ≤ i ∧ i < n := by
  unfold ixN at h
  by_cases h0 : 0 ≤ i
  · rw [if_pos h0] at h
    by_cases h1 : i < n
    · rw [if_pos h1] at h
      have e : i.toNat = j := Option.some.inj h
      exact ⟨by rw [seqIndex_of h0 h1, e], by lia, by lia, h1⟩
    · rw [if_neg h1] at h; cases h
  · rw [if_neg h0] at h
    by_cases h1 : -(n : Int) ≤ i
    · rw [if_pos h1] at h
      have e : (i + n).toNat = j := Option.some.inj h
      exact ⟨by rw [seqIndex_neg (by lia) h1, e], by lia, h1, by lia⟩
    · rw [if_neg h1] at h; cases h
theorem atI_get {α : Type} {xs : List α} {i : Int} {v : α} (h : atI xs i = some v) : ∃ j, seqIndex? i xs.length = some j ∧ xs[j]? = some v ∧ j < xs.length ∧ -(xs.length : Int) ≤ i ∧ i < xs.length := by
  unfold atI at h
  cases e : ixN xs.length i with
  | none => rw [e] at h; cases h
  | some j =>
    rw [e] at h
    obtain ⟨h1, h2, h3, h4⟩ := ixN_seq e
    exact ⟨j, h1, h, h2, h3, h4⟩
theorem atI_nat {α : Type} {xs : List α} {j : Nat} {v : α} (h : xs[j]? = some v) : atI xs (j : Int) = some v := by
  have hj : j < xs.length := (List.getElem?_eq_some_iff.mp h).1
  have e : ixN xs.length (j : Int) = some j := by
    unfold ixN
    rw [if_pos (by lia), if_pos (by lia)]; simp
  unfold atI; rw [e]; exact h
theorem atI_last {α : Type} (xs : List α) (v : α) : atI (xs ++ [v]) (-1) = some v := by
  have hl : (xs ++ [v]).length = xs.length + 1 := by simp
  have e : ixN (xs ++ [v]).length (-1) = some xs.length := by
    unfold ixN
    rw [hl, if_neg (by decide), if_pos (by lia)]
    congr 1
    lia
  unfold atI
  rw [e]
  show (xs ++ [v])[xs.length]? = some v
  simp

def PlainIx (b : Expr) : Prop := ∀ o i, subscripted b false o i = operate [o, i] (getItem o i)
def IxR (X : Cx) (r : R2) : Prop :=
  ∀ (value slice : Expr) (pins : List (Addr × Obj)) (s : Shared) (σ : St) (H : Hp) (x y : V) (v u : Value) (Q : VK), Inv X pins σ H s → RelV x v → RelV y u → r x y H Q →
    subscripted slice false v u = operate [v, u] (getItem v u) → wpAny (model X.prog X.w) X.A (subscriptTail value slice v u) (EP X pins σ Q) X.xe s
def MtR (X : Cx) (id : String) (r : V → List V → Hp → VK → Prop) : Prop :=
  ∀ (pins : List (Addr × Obj)) (s : Shared) (σ : St) (H : Hp) (x : V) (xs : List V) (v : Value) (us : List Value) (Q : VK), Inv X pins σ H s → RelV x v → Vals xs us → r x xs H Q →
    wpAny (model X.prog X.w) X.A (call (.builtin id) (v :: us)) (EP X pins σ Q) X.xe s
section
variable {X : Cx} {a b : Expr} {ta tb : TE} {pos : Pos}
theorem pe_ix {r : R2} (hr : IxR X r) (ha : PE X a ta) (hb : PE X b tb) (hs : PlainIx b) : PE X (.Subscript a b pos) (tOp r ta tb) := by
  intro pins s σ H Q I h
  exact Subscript_ (binT ha hb I h fun v u s2 x y H2 I2 rx ry q => hr a b pins s2 σ H2 x y v u Q I2 rx ry q (hs _ _))

inductive rIxLI (K : PySem.W.Frag) (x y : V) (H : Hp) (Q : VK) : Prop
  | mk (p xs i v : _) (x0 : x = .ref p) (x1 : y = .int i) (x2 : SqL K H p xs) (x3 : atI xs i = some v) (x4 : Q v H)
def rIxL (K : PySem.W.Frag) : R2 := fun x y H Q => rIxLI K x y H Q
inductive rIxTI (K : PySem.W.Frag) (x y : V) (H : Hp) (Q : VK) : Prop
  | mk (p xs i v : _) (x0 : x = .ref p) (x1 : y = .int i) (x2 : SqT K H p xs) (x3 : atI xs i = some v) (x4 : Q v H)
def rIxT (K : PySem.W.Frag) : R2 := fun x y H Q => rIxTI K x y H Q
inductive rIxSI (x y : V) (H : Hp) (Q : VK) : Prop
  | mk (z i c : _) (x0 : x = .str z) (x1 : y = .int i) (x2 : z.length ≤ sizeLine) (x3 : atI z.cps.toList i = some c) (x4 : Q (.str ⟨#[c]⟩) H)
def rIxS : R2 := fun x y H Q => rIxSI  x y H Q
theorem ix_list : IxR X (rIxL X.K) := by
  intro value slice pins s σ H x y v u Q I rx ry h hs
  obtain ⟨p, xs, i, z, rfl, rfl, hq, he, q⟩ := h
  cases rx
  obtain ⟨t, rfl⟩ := ry
  obtain ⟨its, r, pl, hz⟩ := I.list hq
  obtain ⟨j, h1, h2, h3, h4, h5⟩ := atI_get he
  obtain ⟨w, ew, rw'⟩ := r.get h2
  have hl := r.length
  have hn := line63
  have fin : EP X pins σ Q w s := ⟨z, H, I, rw', q⟩
  by_cases h0 : 0 ≤ i
  · have hj : i.toNat = j := by
      rw [seqIndex_of h0 h5] at h1
      exact Option.some.inj h1
    exact item_listR pl.isList h0 (by lia) (by rw [hj]; simpa using ew) fin hs
  · have hj : (i + (its.toArray.size : Int)).toNat = j := by
      rw [seqIndex_neg (by lia) h4] at h1
      rw [List.size_toArray, ← hl]
      exact Option.some.inj h1
    exact subscriptTail_builtinR (x := w) pl.isList.typeIs slot_list_getitem.lookup
      (wpAny_getItem_list_neg (Q := fun r s' => r = w ∧ EP X pins σ Q r s') pl.isList (by lia) (by rw [List.size_toArray] <;> lia) (by lia) (by rw [hj]; simpa using ew) ⟨rfl, fin⟩) hs
theorem ix_tup : IxR X (rIxT X.K) := by
  intro value slice pins s σ H x y v u Q I rx ry h hs
  obtain ⟨p, xs, i, z, rfl, rfl, hq, he, q⟩ := h
  cases rx
  obtain ⟨t, rfl⟩ := ry
  obtain ⟨its, r, pl, hz⟩ := I.tuple hq
  obtain ⟨j, h1, h2, h3, h4, h5⟩ := atI_get he
  obtain ⟨w, ew, rw'⟩ := r.get h2
  have hl := r.length
  have hn := line63
  have fin : EP X pins σ Q w s := ⟨z, H, I, rw', q⟩
  exact subscriptTail_builtinR (x := w) pl.typeIs slot_tuple_getitem.lookup
    (getItem_tuple (j := j) (Q := fun r s' => r = w ∧ EP X pins σ Q r s') pl (by lia) (by lia) (by rw [List.size_toArray, ← hl]; exact h1) (by simpa using ew) ⟨rfl, fin⟩) hs
theorem ix_str : IxR X rIxS := by
  intro value slice pins s σ H x y v u Q I rx ry h hs
  obtain ⟨z, i, c, rfl, rfl, hz, he, q⟩ := h
  obtain ⟨t, rfl⟩ := rx
  obtain ⟨t', rfl⟩ := ry
  obtain ⟨j, h1, h2, h3, h4, h5⟩ := atI_get he
  have hl : z.cps.toList.length = z.length := by simp [Str.length]
  rw [hl] at h1 h4 h5
  have hn := line63
  exact tail_any (typeIs_str s z t) slot_str_getitem.lookup (getItem_str (c := c) (by
    have e1 : decide (i < -(2 ^ 63 : Int)) = false := decide_eq_false (by lia)
    have e2 : decide (i ≥ 2 ^ 63) = false := decide_eq_false (by lia)
    rw [e1, e2, Bool.or_false]) (by rw [h1]; simpa using h2) ⟨.str ⟨#[c]⟩, H, I.tok _, ⟨_, rfl⟩, q⟩) hs
theorem mapSeq_set (its : List Value) (n j : Nat) (u : Value) : Obj.mapSeq (·.setIfInBounds j u) { cls := .type "list", data := .seq its.toArray n } = { cls := .type "list", data := .seq (its.set j u).toArray n } := by
  simp [Obj.mapSeq]
theorem Inv.lst {pins : List (Addr × Obj)} {σ : St} {H : Hp} {s : Shared} {p : Addr} {xs : List V} (I : Inv X pins σ H s) (h : H p = some (.lst xs)) :
    ∃ (its : List Value) (n : Nat), Vals xs its ∧ s.heap.get? p = some { cls := .type "list", data := .seq its.toArray n } ∧ xs.length ≤ sizeLine := by
  obtain ⟨z, its, n, r, e⟩ := I.hok p _ h
  exact ⟨its, n, r, e, z⟩
theorem Inv.lstUpd {pins : List (Addr × Obj)} {σ : St} {H : Hp} {s : Shared} {p : Addr} {xs ys : List V} {its its' : List Value} {n n' : Nat} {f : Obj → Obj} (I : Inv X pins σ H s) (h : H p = some (.lst xs))
    (ho : s.heap.get? p = some { cls := .type "list", data := .seq its.toArray n }) (hf : f { cls := .type "list", data := .seq its.toArray n } = { cls := .type "list", data := .seq its'.toArray n' }) (r : Vals ys its') (hz : ys.length ≤ sizeLine) (t : Nat) :
    Inv X pins σ (upd H p (.lst ys)) { s with heap := s.heap.update p f, toks := t } := by
  have e : (s.heap.update p f).get? p = some { cls := .type "list", data := .seq its'.toArray n' } := by
    rw [Heap.get?_update_self f ho (by rw [hf] <;> rfl), hf]
  refine I.write (x := p) (e := p) (by rw [h]; trivial) (.inl rfl) (fun b u hb q => (Heap.get?_update_other _ _ (Ne.symm hb)).trans q) ⟨_, e⟩ ?_
  exact ⟨hz, its', n', r, e⟩
inductive rSetLI (o i v : V) (H : Hp) (Q : (Hp → Prop)) : Prop
  | mk (p xs k j : _) (x0 : o = .ref p) (x1 : i = .int k) (x2 : H p = some (.lst xs)) (x3 : ixN xs.length k = some j) (x4 : Q (upd H p (.lst (xs.set j v))))
def rSetL : V → V → V → Hp → (Hp → Prop) → Prop := fun o i v H Q => rSetLI  o i v H Q
theorem set_list : PSet X rSetL := by
  intro pins s σ H o i v ov iv u Q I ro ri rv h
  obtain ⟨p, xs, k, j, rfl, rfl, hp, hj, q⟩ := h
  cases ro
  obtain ⟨t, rfl⟩ := ri
  obtain ⟨its, n, r, ho, hz⟩ := I.lst hp
  obtain ⟨h1, h2, h3, h4⟩ := ixN_seq hj
  have hl := r.length
  have hn := line63
  have I' : Inv X pins σ (upd H p (.lst (xs.set j v))) { s with heap := s.heap.update p (Obj.mapSeq (·.setIfInBounds j u)) } :=
    I.lstUpd hp ho (mapSeq_set its n j u) (r.set rv j) (by rw [List.length_set]; exact hz) s.toks
  by_cases h0 : 0 ≤ k
  · have hk : k.toNat = j := by
      rw [seqIndex_of h0 h4] at h1
      exact Option.some.inj h1
    exact PySem.W.ki_setAt ho h0 (by lia) (by rw [List.size_toArray, ← hl]; exact h4) (by rw [hk]; exact ⟨_, I', q⟩)
  · have hk : (k + (its.toArray.size : Int)).toNat = j := by
      rw [seqIndex_neg (by lia) h3] at h1
      rw [List.size_toArray, ← hl]
      exact Option.some.inj h1
    exact PySem.W.ki_setBack ho (by lia) (by rw [List.size_toArray, ← hl]; exact h3) (by lia) (by rw [hk]; exact ⟨_, I', q⟩)

theorem slice_bounds (lo hi : Option Int) (n : Nat) : (sliceBounds lo hi none n).1 = ((HT.sIx n 0 lo : Nat) : Int) ∧ (sliceBounds lo hi none n).2.1 = ((HT.sIx n n hi : Nat) : Int) ∧ (sliceBounds lo hi none n).2.2 = 1 := by
  refine ⟨?_, ?_, rfl⟩
  · cases lo with
    | none => simp [sliceBounds, HT.sIx]
    | some i =>
      simp only [sliceBounds, HT.sIx, Option.getD_none, show (1 : Int) > 0 by decide, if_true]
      by_cases h : i < 0
      · simp only [h, if_true] <;> lia
      · simp only [h, if_false] <;> lia
  · cases hi with
    | none => simp [sliceBounds, HT.sIx]
    | some i =>
      simp only [sliceBounds, HT.sIx, Option.getD_none, show (1 : Int) > 0 by decide, if_true]
      by_cases h : i < 0
      · simp only [h, if_true] <;> lia
      · simp only [h, if_false] <;> lia
theorem slicePick_cut (its : List Value) (lo hi : Option Int) : slicePick its.toArray lo hi none = ((its.drop (HT.sIx its.length 0 lo)).take (HT.sIx its.length its.length hi - HT.sIx its.length 0 lo)).toArray := by
  obtain ⟨h1, h2, h3⟩ := slice_bounds lo hi its.toArray.size
  unfold slicePick
  rw [h1, h2, h3]
  simp only [sliceRange_one, pick_run, List.size_toArray] <;> rfl
inductive rSlLI (K : PySem.W.Frag) (x : V) (lo hi : Option Int) (H : Hp) (Q : VK) : Prop
  | mk (a xs : _) (x0 : x = .ref a) (x1 : SqL K H a xs) (x2 : New H (.lst (cutV xs lo hi)) Q)
def rSlL (K : PySem.W.Frag) : V → Option Int → Option Int → Hp → VK → Prop := fun x lo hi H Q => rSlLI K x lo hi H Q
theorem sl_list : SlR X (rSlL X.K) := by
  intro pins s σ H x v vl vu lo hi sl Q I rx hs pl pu h
  obtain ⟨a, xs, rfl, hx, q⟩ := h
  cases rx
  obtain ⟨its, r, ht, hz⟩ := I.list hx
  have hlen := r.length
  refine ⟨"list", _, slot_list_getitem.lookup, ht.isList.typeIs, ?_⟩
  refine wpAny_getItem_list_slice ht.isList hs pl pu .none (by simp) ?_ (by rw [List.size_toArray] <;> lia)
  rw [slicePick_cut, ← hlen]
  refine ⟨.ref s.heap.objs.size, _, I.laid (t' := s.toks) (o := .lst (cutV xs lo hi)) (fun b ob q => Heap.get?_push_of_some _ q) (Nat.le_refl _) ?_, rfl, q _ (I.hok.fresh (Nat.le_refl _))⟩
  exact ⟨Nat.le_trans (cutV_length xs lo hi) hz, _, 0, (r.drop (HT.sIx xs.length 0 lo)).take (HT.sIx xs.length xs.length hi - HT.sIx xs.length 0 lo), Heap.get?_push_size _ rfl⟩

def flatV : V → Bool
  | .non => true
  | .bl _ => true
  | .int _ => true
  | .str _ => true
  | _ => false
def eqV : V → V → Bool
  | .non, .non => true
  | .bl a, .bl b => a == b
  | .bl a, .int b => (if a then 1 else 0) == b
  | .int a, .bl b => a == (if b then 1 else 0)
  | .int a, .int b => a == b
  | .str a, .str b => a == b
  | _, _ => false
theorem eqAt_V {A : Around} {s : Shared} {y x : V} {u v : Value} (ry : RelV y u) (rx : RelV x v) (fy : flatV y = true) (fx : flatV x = true) : SeqAt.EqAt A s u v (eqV y x) := by
  cases y with
  | non =>
    cases ry
    cases x with
    | non => cases rx; exact SeqAt.EqAt.same _
    | bl b => cases rx; exact SeqAt.EqAt.none_bool b
    | int b => obtain ⟨t, rfl⟩ := rx; exact SeqAt.EqAt.none_int b t
    | str b => obtain ⟨t, rfl⟩ := rx; exact SeqAt.EqAt.none_str b t
    | _ => exact absurd (show false = true from fx) Bool.false_ne_true
  | bl a =>
    cases ry
    cases x with
    | non => cases rx; exact SeqAt.EqAt.bool_none a
    | bl b => cases rx; exact SeqAt.EqAt.bool_bool a b
    | int b => obtain ⟨t, rfl⟩ := rx; exact SeqAt.EqAt.bool_int a b t
    | str b => obtain ⟨t, rfl⟩ := rx; exact SeqAt.EqAt.bool_str a b t
    | _ => exact absurd (show false = true from fx) Bool.false_ne_true
  | int a =>
    obtain ⟨t', rfl⟩ := ry
    cases x with
    | non => cases rx; exact SeqAt.EqAt.int_none a t'
    | bl b => cases rx; exact SeqAt.EqAt.int_bool a t' b
    | int b => obtain ⟨t, rfl⟩ := rx; exact SeqAt.EqAt.int_int a t' b t
    | str b => obtain ⟨t, rfl⟩ := rx; exact SeqAt.EqAt.int_str a t' b t
    | _ => exact absurd (show false = true from fx) Bool.false_ne_true
  | str a =>
    obtain ⟨t', rfl⟩ := ry
    cases x with
    | non => cases rx; exact SeqAt.EqAt.str_none a t'
    | bl b => cases rx; exact SeqAt.EqAt.str_bool a t' b
    | int b => obtain ⟨t, rfl⟩ := rx; exact SeqAt.EqAt.str_int a t' b t
    | str b => obtain ⟨t, rfl⟩ := rx; exact SeqAt.EqAt.str_str a t' b t
    | _ => exact absurd (show false = true from fx) Bool.false_ne_true
  | _ => exact absurd (show false = true from fy) Bool.false_ne_true
def eqU (x : V) (u : Value) : Bool := match u with
  | .none => eqV .non x
  | .bool b => eqV (.bl b) x
  | .int i _ => eqV (.int i) x
  | .str z _ => eqV (.str z) x
  | _ => false
theorem eqU_of {x y : V} {u : Value} (r : RelV y u) (f : flatV y = true) : eqU x u = eqV y x := by
  cases y with
  | non => cases r; rfl
  | bl b => cases r; rfl
  | int i => obtain ⟨t, rfl⟩ := r; rfl
  | str z => obtain ⟨t, rfl⟩ := r; rfl
  | _ => exact absurd (show false = true from f) Bool.false_ne_true
theorem any_eqU {x : V} : ∀ {xs : List V} {us : List Value}, Vals xs us → xs.all flatV = true → us.any (eqU x) = xs.any fun y => eqV y x
  | _, _, .nil, _ => rfl
  | y :: xs, u :: us, .cons r t, f => by
    rw [List.all_cons, Bool.and_eq_true] at f
    rw [List.any_cons, List.any_cons, eqU_of r f.1, any_eqU t f.2]
theorem mem_eqAt {A : Around} {s : Shared} {x : V} {v : Value} (rx : RelV x v) (fx : flatV x = true) : ∀ {xs : List V} {us : List Value}, Vals xs us → xs.all flatV = true → ∀ u ∈ us, SeqAt.EqAt A s u v (eqU x u)
  | _, _, .nil, _ => fun u hu => by cases hu
  | y :: xs, u :: us, .cons r t, f => fun u' hu => by
    rw [List.all_cons, Bool.and_eq_true] at f
    rcases List.mem_cons.mp hu with rfl | hu
    · rw [eqU_of r f.1]; exact eqAt_V r rx f.1 fx
    · exact mem_eqAt rx fx t f.2 u' hu
def inV (x : V) (xs : List V) : Bool := xs.any fun y => eqV y x
inductive rInI (K : PySem.W.Frag) (neg : Bool) (x y : V) (H : Hp) (Q : VK) : Prop
  | mk (p xs : _) (x0 : y = .ref p) (x1 : (SqL K H p xs ∨ SqT K H p xs)) (x2 : flatV x = true) (x3 : xs.all flatV = true) (x4 : Q (.bl (if neg then !inV x xs else inV x xs)) H)
def rIn (K : PySem.W.Frag) (neg : Bool) : R2 := fun x y H Q => rInI K neg x y H Q
theorem op_in_seq : OpR X (compareOp .In) (rIn X.K false) := by
  intro pins s σ H x y v u Q I rx ry h
  obtain ⟨p, xs, rfl, hq, fx, fs, q⟩ := h
  cases ry
  rcases hq with hq | hq
  · obtain ⟨its, r, pl, hz⟩ := I.list hq
    refine SeqAt.in_listAt (eqU x) pl.isList (fun w hw => mem_eqAt rx fx r fs w (by simpa using hw)) ⟨.bl _, H, I, rfl, ?_⟩
    rw [show its.toArray.any (eqU x) = its.any (eqU x) by simp, any_eqU r fs]
    exact q
  · obtain ⟨its, r, pl, hz⟩ := I.tuple hq
    refine SeqAt.in_tupleAt (eqU x) pl (fun w hw => mem_eqAt rx fx r fs w (by simpa using hw)) ⟨.bl _, H, I, rfl, ?_⟩
    rw [show its.toArray.any (eqU x) = its.any (eqU x) by simp, any_eqU r fs]
    exact q
inductive r_call_len_seqI (K : PySem.W.Frag) (xs : List V) (H : Hp) (Q : VK) : Prop
  | mk (p ys : _) (h0_ : xs = [.ref p]) (h1_ : (SqL K H p ys ∨ SqT K H p ys)) (h2_ : Q (.int ys.length) H)
def r_call_len_seq (K : PySem.W.Frag) : List V → Hp → VK → Prop := fun xs H Q => r_call_len_seqI K xs H Q
theorem call_len_seq : CallR X (.builtin "len") (r_call_len_seq X.K) := by
  intro pins s σ H xs us Q I r h
  obtain ⟨p, ys, rfl, hq, q⟩ := h
  obtain ⟨u, rfl, rx⟩ := vals1 r
  cases rx
  have hn := line63
  rcases hq with hq | hq
  · obtain ⟨its, r', pl, hz⟩ := I.list hq
    have hlen := r'.length
    exact Calls.call_len_list pl.isList (by simp only [List.size_toArray] <;> lia) ⟨.int ys.length, H, I.tok _, ⟨s.toks + 1, by rw [List.size_toArray, hlen]⟩, q⟩
  · obtain ⟨its, r', pl, hz⟩ := I.tuple hq
    have hlen := r'.length
    exact len_tuple pl (by simp only [List.size_toArray] <;> lia) ⟨.int ys.length, H, I.tok _, ⟨s.toks + 1, by rw [List.size_toArray, hlen]⟩, q⟩
inductive r_call_len_strI (xs : List V) (H : Hp) (Q : VK) : Prop
  | mk (z : _) (h0_ : xs = [.str z]) (h1_ : z.length ≤ sizeLine) (h2_ : Q (.int z.length) H)
def r_call_len_str : List V → Hp → VK → Prop := fun xs H Q => r_call_len_strI xs H Q
theorem call_len_str : CallR X (.builtin "len") r_call_len_str := by
  intro pins s σ H xs us Q I r h
  obtain ⟨z, rfl, hz, q⟩ := h
  obtain ⟨u, rfl, t, rfl⟩ := vals1 r
  have hn := line63
  exact len_str (by lia) ⟨.int z.length, H, I.tok _, ⟨_, rfl⟩, q⟩
inductive r_call_tuple_ofI (K : PySem.W.Frag) (xs : List V) (H : Hp) (Q : VK) : Prop
  | mk (p ys : _) (h0_ : xs = [.ref p]) (h1_ : ((SqL K H p ys ∧ ∀ l, H l = none → Q (.ref l) (upd H l (.tup ys))) ∨ (SqT K H p ys ∧ Q (.ref p) H)))
def r_call_tuple_of (K : PySem.W.Frag) : List V → Hp → VK → Prop := fun xs H Q => r_call_tuple_ofI K xs H Q
theorem call_tuple_of : CallR X (.type "tuple") (r_call_tuple_of X.K) := by
  intro pins s σ H xs us Q I r h
  obtain ⟨p, ys, rfl, h⟩ := h
  obtain ⟨u, rfl, rx⟩ := vals1 r
  cases rx
  rcases h with ⟨hq, q⟩ | ⟨hq, q⟩
  · obtain ⟨its, r', pl, hz⟩ := I.list hq
    have hlen := r'.length
    refine call_tuple_list pl.isList (fun h' kp => ?_) (by simp only [List.size_toArray] <;> lia)
    have I1 : Inv X pins σ H { s with heap := h' } := I.kept (t' := s.toks) kp
    have I2 : Inv X pins σ (upd H h'.objs.size (.tup ys)) { s with heap := h'.push { cls := .type "tuple", data := .seq its.toArray } } :=
      I1.laid (t' := s.toks) (fun b o e => Heap.get?_push_of_some _ e) (Nat.le_refl _) (show ObjOk X.prog X.w _ _ _ (.tup ys) from ⟨hz, its, r', IsTup.new _ _⟩)
    exact ⟨.ref h'.objs.size, _, I2, rfl, q _ (I1.hok.fresh (Nat.le_refl _))⟩
  · obtain ⟨its, r', pl, hz⟩ := I.tuple hq
    exact call_tuple_same pl ⟨.ref p, H, I, rfl, q⟩

def tyV (K : PySem.W.Frag) (T : String) (x : V) (H : Hp) : Prop := match x with
  | .str _ => T = "str"
  | .int _ => T = "int"
  | .ref p => (T = "list" ∧ ∃ xs, SqL K H p xs) ∨ (T = "tuple" ∧ ∃ o, K.lookup p = some o ∧ o.cls = .type "tuple" ∧ o.dict = none) ∨
      (T = "dict" ∧ ((∃ kvs, H p = some (.dK kvs)) ∨ ∃ kvs, H p = some (.dT kvs))) ∨ (T = "set" ∧ ∃ S n, H p = some (.set S n))
  | _ => False
theorem tyV_is {pins : List (Addr × Obj)} {σ : St} {H : Hp} {s : Shared} {T : String} {x : V} {v : Value} (I : Inv X pins σ H s) (r : RelV x v) (ty : tyV X.K T x H) :
    s.TypeIs v T ∧ ∀ a, v = .ref a → ∃ ob, s.heap.get? a = some ob ∧ ob.dict = none := by
  cases x with
  | str z =>
    obtain ⟨t, rfl⟩ := r
    cases (show T = "str" from ty)
    exact ⟨typeIs_str s z t, fun _ e => nomatch e⟩
  | int i =>
    obtain ⟨t, rfl⟩ := r
    cases (show T = "int" from ty)
    exact ⟨typeIs_int s i t, fun _ e => nomatch e⟩
  | ref p =>
    cases r
    rcases ty with ⟨rfl, xs, hq⟩ | ⟨rfl, o, hk, hc, hd⟩ | ⟨rfl, hk⟩ | ⟨rfl, S, n, hk⟩
    · obtain ⟨its, _, pl, _⟩ := I.list hq
      refine ⟨pl.isList.typeIs, fun a e => ?_⟩
      cases e
      obtain ⟨o, n, e, c, hd, _⟩ := pl
      exact ⟨o, e, hd⟩
    · refine ⟨⟨o, I.kIn p o hk, hc⟩, fun a e => ?_⟩
      cases e
      exact ⟨o, I.kIn _ o hk, hd⟩
    · have z : ∃ o, s.heap.get? p = some o ∧ o.ExactDict := by
        rcases hk with ⟨kvs, hk⟩ | ⟨kvs, hk⟩
        · obtain ⟨_, _, _, _, o, _, _, e, ex, _⟩ := I.hok p _ hk
          exact ⟨o, e, ex⟩
        · obtain ⟨_, _, _, _, o, _, _, e, ex, _⟩ := I.hok p _ hk
          exact ⟨o, e, ex⟩
      obtain ⟨o, e, ex⟩ := z
      refine ⟨⟨o, e, ex.1⟩, fun a e2 => ?_⟩
      cases e2
      exact ⟨o, e, ex.2.1⟩
    · obtain ⟨o, _, _, _, e, ex, _⟩ := I.hok p _ hk
      refine ⟨⟨o, e, ex.1⟩, fun a e2 => ?_⟩
      cases e2
      exact ⟨o, e, ex.2.1⟩
  | _ => exact False.elim ty
def tBM0 (K : PySem.W.Frag) (T : String) (r : V → List V → Hp → VK → Prop) (to : TE) : TE := fun σ H Q => to σ H fun x H1 => tyV K T x H1 ∧ r x [] H1 Q
def tBM (K : PySem.W.Frag) (T : String) (r : V → List V → Hp → VK → Prop) (to : TE) (t : TA) : TE := fun σ H Q => to σ H fun x H1 => tyV K T x H1 ∧ t σ H1 fun xs H2 => r x xs H2 Q
variable {o e : Expr} {es : List Expr} {to : TE} {t : TA} {name : Str} {apos cpos : Pos} {T id : String} {r : V → List V → Hp → VK → Prop}
theorem pe_bm0 (pa : PlainAttrs T) (slot : Slot T name id) (hty : typeOf (.builtin id) = pure (.type "method_descriptor")) (hm : MtR X id r) (ho : PE X o to)
    (hbase : attributeBase o name X.env (eval o X.env) = eval o X.env := by rfl) (hline : (apos.endLine == cpos.line) = true := by rfl) : PE X (.Call (.Attribute o name apos) [] [] cpos) (tBM0 X.K T r to) := by
  intro pins s σ H Q I h
  refine wpAny_Call_method0_late hbase hline (thn (ho pins s σ H _ I h) fun v s1 ⟨x, H1, I1, r1, ty, q1⟩ => ?_)
  obtain ⟨h1, h2⟩ := tyV_is I1 r1 ty
  exact ⟨T, id, pa, slot, hty, h1, h2, Calls.callWith_builtin rfl (PySem.evalArgs_none (hm pins s1 σ H1 x [] v [] Q I1 r1 .nil q1))⟩
theorem pe_bm (pa : PlainAttrs T) (slot : Slot T name id) (hty : typeOf (.builtin id) = pure (.type "method_descriptor")) (hm : MtR X id r) (ho : PE X o to) (ha : PA X (e :: es) t)
    (hbase : attributeBase o name X.env (eval o X.env) = eval o X.env := by rfl)
    (hfew : ((backTo cpos (starEach (e :: es) X.env)).all (fun x => !x.1) && (backToKw cpos (keywordEach [] X.env)).all (fun x => x.1.isSome)
      && decide ((e :: es).length + ([] : List Keyword).length + (if ([] : List Keyword).isEmpty then 0 else 1) < 30)) = true := by rfl)
    (hline : (apos.endLine == cpos.line) = true := by rfl) (hs : starEach (e :: es) X.env = (false, eval e X.env) :: starEach es X.env := by rfl) (hplain : (backTo cpos (starEach es X.env)).any (·.1) = false := by rfl) :
    PE X (.Call (.Attribute o name apos) (e :: es) [] cpos) (tBM X.K T r to t) := by
  intro pins s σ H Q I h
  refine wpAny_Call_method_late hbase hfew hline rfl (thn (ho pins s σ H _ I h) fun v s1 ⟨x, H1, I1, r1, ty, q1⟩ => ?_)
  obtain ⟨h1, h2⟩ := tyV_is I1 r1 ty
  refine ⟨T, id, pa, slot, hty, h1, h2, ?_⟩
  have hA := ha cpos pins s1 σ H1 _ I1 q1
  rw [hs] at hA ⊢
  refine Calls.callWith_builtin (by show (false || (backTo cpos (starEach es X.env)).any (·.1)) = false; rw [hplain] <;> rfl) (Calls.evalArgs_plain ?_)
  exact thn hA fun us s2 zq => zq.elim fun vs H2 I2 r2 q2 => hm pins s2 σ H2 x vs v us Q I2 r1 r2 q2
/- xs.append(e), list.index on a module's tuple .. are MtR facts of 06m -/
end
end L2

namespace L2
open PySem PySem.Spec PyProof.Rows

def MtM (X : Cx) (id : String) (r : V → List V → Hp → VK → Prop) : Prop :=
  ∀ (pins : List (Addr × Obj)) (s : Shared) (σ : St) (H : Hp) (x : V) (xs : List V) (v : Value) (us : List Value) (Q : VK), Inv X pins σ H s → RelV x v → Vals xs us → r x xs H Q →
    wpAny (model X.prog X.w) X.A (call (.builtin id) (v :: us)) (EP X pins σ Q) X.xe s

theorem Vals.zero {us : List Value} (r : Vals [] us) : us = [] := List.eq_nil_of_length_eq_zero (Paired.length r).symm
theorem Vals.one {x : V} {us : List Value} (r : Vals [x] us) : ∃ u, us = [u] ∧ RelV x u := by
  obtain ⟨u, ur, rfl, h, t⟩ := r.inv
  rw [t.zero]
  exact ⟨u, rfl, h⟩
theorem Vals.dropLast {xs : List V} {us : List Value} (h : Vals xs us) : Vals xs.dropLast us.dropLast := by
  induction h with
  | nil => exact .nil
  | cons r t ih =>
    cases t with
    | nil => exact .nil
    | cons q t' => exact .cons r ih
theorem Vals.rep {xs : List V} {us : List Value} (h : Vals xs us) : ∀ k : Nat, Vals (List.replicate k xs).flatten (List.replicate k us).flatten
  | 0 => .nil
  | k + 1 => by
    rw [List.replicate_succ, List.replicate_succ, List.flatten_cons, List.flatten_cons]
    exact Vals.append h (Vals.rep h k)
theorem erase_last {α : Type} (l : List α) : l.eraseIdx (l.length - 1) = l.dropLast := List.eraseIdx_length_sub_one
theorem foldl_rep (its : List Value) : ∀ (k : Nat) (acc : List Value),
    List.foldl (fun x1 x2 => x1 ++ x2) acc.toArray (List.replicate k its.toArray) = (acc ++ (List.replicate k its).flatten).toArray
  | 0, acc => by simp
  | k + 1, acc => by
    have e : acc.toArray ++ its.toArray = (acc ++ its).toArray := by simp
    have e2 : (acc ++ its) ++ (List.replicate k its).flatten = acc ++ (List.replicate (k + 1) its).flatten := by
      rw [List.replicate_succ, List.flatten_cons, List.append_assoc]
    rw [← e2, ← foldl_rep its k (acc ++ its), ← e, List.replicate_succ, List.foldl_cons]

section
variable {X : Cx} {pins : List (Addr × Obj)} {σ : St} {H : Hp} {s : Shared} {l b : Addr} {xs ys zs : List V}

theorem Inv.lset {its its' : List Value} {n : Nat} {f : Array Value → Array Value} {t' : Nat} (I : Inv X pins σ H s) (hH : H l = some (.lst xs))
    (e : s.heap.get? l = some { cls := .type "list", data := .seq its.toArray n }) (hf : f its.toArray = its'.toArray) (hv : Vals ys its') (hz : ys.length ≤ sizeLine) :
    Inv X pins σ (upd H l (.lst ys)) { s with heap := s.heap.update l (Obj.mapSeq f), toks := t' } := by
  have q := PySem.IsL.update e f
  rw [hf] at q
  refine I.write (x := l) (e := l) (by rw [hH]; exact trivial) (.inl rfl) (fun b' u hb hu => (Heap.get?_update_other s.heap (Obj.mapSeq f) (Ne.symm hb)).trans hu) ⟨_, q⟩ ?_
  exact ⟨hz, its', _, hv, q⟩
theorem Inv.lnew {its : List Value} {t' : Nat} (I : Inv X pins σ H s) (hv : Vals ys its) (hz : ys.length ≤ sizeLine) :
    Inv X pins σ (upd H s.heap.objs.size (.lst ys)) { s with heap := s.heap.push { cls := .type "list", data := .seq its.toArray }, toks := t' } :=
  I.laid (fun _ _ q => Heap.get?_push_of_some _ q) (Nat.le_refl _) ⟨hz, its, 0, hv, Heap.get?_push_size _ rfl⟩
theorem Inv.fresh (I : Inv X pins σ H s) : H s.heap.objs.size = none := I.hok.fresh (Nat.le_refl _)
theorem Inv.lstM (I : Inv X pins σ H s) (hH : H l = some (.lst xs)) : xs.length ≤ sizeLine ∧ ∃ (its : List Value) (n : Nat), Vals xs its ∧ xs.length = its.length ∧ s.heap.get? l = some { cls := .type "list", data := .seq its.toArray n } := by
  obtain ⟨z, its, n, r, e⟩ := I.hok l _ hH
  exact ⟨z, its, n, r, r.length, e⟩

theorem notLongL {n : Nat} (h : n ≤ sizeLine) : Builtin.List.listTooLong n = false := by
  unfold Builtin.List.listTooLong
  exact decide_eq_false (by lia)
end

section
variable {X : Cx}

inductive rAppendI (x : V) (vs : List V) (H : Hp) (Q : VK) : Prop
  | mk (l xs y : _) (x0 : x = .ref l) (x1 : vs = [y]) (x2 : H l = some (.lst xs)) (x3 : xs.length < sizeLine) (x4 : Q .non (upd H l (.lst (xs ++ [y]))))
def rAppend : V → List V → Hp → VK → Prop := fun x vs H Q => rAppendI  x vs H Q
theorem mt_append : MtM X "list.append" rAppend := by
  intro pins s σ H x vs v us Q I rx rv h
  obtain ⟨l, xs, y, rfl, rfl, hH, hz, q⟩ := h
  cases rx
  obtain ⟨u, rfl, ru⟩ := rv.one
  obtain ⟨z, its, n, r, hl, e⟩ := I.lstM hH
  refine call_meets F.slot_list_append ⟨_, e, rfl⟩ F.entry_list_append (F.args_list_append_2 _ _) (PySem.list_append l its.toArray n u (by rw [List.size_toArray]; lia)) ⟨e, ?_⟩
  refine ⟨.non, _, I.lset (its' := its ++ [u]) hH e (by simp) (r.append (.cons ru .nil)) ?_, rfl, q⟩
  rw [List.length_append, List.length_singleton]
  lia

inductive rExtendI (x : V) (vs : List V) (H : Hp) (Q : VK) : Prop
  | mk (l b xs zs : _) (x0 : x = .ref l) (x1 : vs = [.ref b]) (x2 : H l = some (.lst xs)) (x3 : H b = some (.lst zs)) (x4 : xs.length + zs.length ≤ sizeLine) (x5 : Q .non (upd H l (.lst (xs ++ zs))))
def rExtend : V → List V → Hp → VK → Prop := fun x vs H Q => rExtendI  x vs H Q
theorem mt_extend : MtM X "list.extend" rExtend := by
  intro pins s σ H x vs v us Q I rx rv h
  obtain ⟨l, b, xs, zs, rfl, rfl, hH, hB, hz, q⟩ := h
  cases rx
  obtain ⟨u, rfl, ru⟩ := rv.one
  cases ru
  obtain ⟨z, its, n, r, hl, e⟩ := I.lstM hH
  obtain ⟨z2, its2, n2, r2, hl2, e2⟩ := I.lstM hB
  have hsz : its.toArray.size + its2.toArray.size ≤ sizeLine := by rw [List.size_toArray, List.size_toArray]; lia
  have hlong : ¬ (!its.toArray.isEmpty && Builtin.List.listTooLong (its.toArray.size + its2.toArray.size)) = true := by
    rw [notLongL hsz, Bool.and_false]
    exact Bool.false_ne_true
  refine call_meets F.slot_list_extend ⟨_, e, rfl⟩ F.entry_list_extend (F.args_list_extend_2 _ _)
    (AutoSeq1.list_extend_list_list_0 l its.toArray n b its2.toArray n2 hlong (by rw [List.size_toArray]; lia) (by lia)) ⟨e, e2, ?_⟩
  refine ⟨.non, _, I.lset (its' := its ++ its2) hH e (by simp) (r.append r2) ?_, rfl, q⟩
  rw [List.length_append]
  lia

inductive rPopI (x : V) (vs : List V) (H : Hp) (Q : VK) : Prop
  | mk (l xs y : _) (x0 : x = .ref l) (x1 : vs = []) (x2 : H l = some (.lst xs)) (x3 : xs[xs.length - 1]? = some y) (x4 : Q y (upd H l (.lst xs.dropLast)))
def rPop : V → List V → Hp → VK → Prop := fun x vs H Q => rPopI  x vs H Q
theorem mt_pop : MtM X "list.pop" rPop := by
  intro pins s σ H x vs v us Q I rx rv h
  obtain ⟨l, xs, y, rfl, rfl, hH, hy, q⟩ := h
  cases rx
  have hus := rv.zero
  subst hus
  obtain ⟨z, its, n, r, hl, e⟩ := I.lstM hH
  obtain ⟨u, hu, ru⟩ := r.get hy
  have hy' : its.toArray[its.toArray.size - 1]? = some u := by
    show its.toArray[its.length - 1]? = some u
    rw [← Array.getElem?_toList, ← hl]
    exact hu
  refine call_meets F.slot_list_pop ⟨_, e, rfl⟩ F.entry_list_pop (F.args_list_pop_1 _) (MeetsSeq.list_pop_last l its.toArray n u hy' (by rw [List.size_toArray]; lia)) ⟨e, ?_⟩
  refine ⟨y, _, I.lset (its' := its.dropLast) hH e ?_ r.dropLast ?_, ru, q⟩
  · show its.toArray.eraseIdxIfInBounds (its.toArray.size - 1) = its.dropLast.toArray
    rw [List.size_toArray, List.eraseIdxIfInBounds_toArray, erase_last]
  · rw [List.length_dropLast]
    lia

inductive rCatI (x y : V) (H : Hp) (Q : VK) : Prop
  | mk (l b xs zs : _) (x0 : x = .ref l) (x1 : y = .ref b) (x2 : H l = some (.lst xs)) (x3 : H b = some (.lst zs)) (x4 : xs.length + zs.length ≤ sizeLine) (x5 : New H (.lst (xs ++ zs)) Q)
def rCat : R2 := fun x y H Q => rCatI  x y H Q
theorem op_cat : OpR X (binaryOp .Add) rCat := by
  intro pins s σ H x y v u Q I rx ry h
  obtain ⟨l, b, xs, zs, rfl, rfl, hH, hB, hz, q⟩ := h
  cases rx
  cases ry
  obtain ⟨z, its, n, r, hl, e⟩ := I.lstM hH
  obtain ⟨z2, its2, n2, r2, hl2, e2⟩ := I.lstM hB
  refine PySem.P.add_list e e2 ?_ (by rw [List.size_toArray, List.size_toArray]; lia)
  have ea : its.toArray ++ its2.toArray = (its ++ its2).toArray := by simp
  rw [ea]
  exact ⟨.ref _, _, I.lnew (t' := s.toks) (r.append r2) (by rw [List.length_append]; lia), rfl, q _ I.fresh⟩
inductive rRepI (x y : V) (H : Hp) (Q : VK) : Prop
  | mk (l k xs : _) (x0 : x = .ref l) (x1 : y = .int k) (x2 : H l = some (.lst xs)) (x3 : -(2 ^ 63) ≤ k) (x4 : k < 2 ^ 63) (x5 : xs.length * k.toNat ≤ sizeLine) (x6 : New H (.lst (List.replicate k.toNat xs).flatten) Q)
def rRep : R2 := fun x y H Q => rRepI  x y H Q
theorem len_rep {α : Type} (xs : List α) (k : Nat) : (List.replicate k xs).flatten.length = k * xs.length := by
  induction k with
  | zero => simp
  | succ k ih => rw [List.replicate_succ, List.flatten_cons, List.length_append, ih, Nat.succ_mul, Nat.add_comm]
theorem op_rep : OpR X (binaryOp .Mult) rRep := by
  intro pins s σ H x y v u Q I rx ry h
  obtain ⟨l, k, xs, rfl, rfl, hH, h1, h2, hz, q⟩ := h
  cases rx
  obtain ⟨t, rfl⟩ := ry
  obtain ⟨z, its, n, r, hl, e⟩ := I.lstM hH
  have hlen : its.toArray.size * k.toNat ≤ sizeLine := by rw [List.size_toArray, ← hl]; exact hz
  have hcap : ¬ its.toArray.size * k.toNat > (2 ^ 63 - 1) / 8 := by
    have : (sizeLine : Nat) ≤ (2 ^ 63 - 1) / 8 := by decide
    lia
  have hfit : ¬ (!Builtin.List.listFitsIndex k) = true := by
    rw [fitsIndex_both h1 h2]
    exact Bool.false_ne_true
  have hlong : ¬ Builtin.List.listTooLong (its.toArray.size * k.toNat) = true := by
    rw [notLongL hlen]
    exact Bool.false_ne_true
  have hnew : List.foldl (fun x1 x2 => x1 ++ x2) #[] (List.replicate (if its.toArray.isEmpty = true then 0 else k.toNat) its.toArray) = (List.replicate k.toNat its).flatten.toArray := by
    have f0 : ∀ m : Nat, List.foldl (fun x1 x2 => x1 ++ x2) #[] (List.replicate m its.toArray) = (List.replicate m its).flatten.toArray := fun m => by
      have := foldl_rep its m []
      rw [List.nil_append] at this
      exact this
    rw [f0]
    cases its with
    | nil => simp
    | cons a r' => rw [if_neg (by simp)]
  refine wpAny_binaryOp_repeat_ref (T := "list") (U := "int") (by decide) ⟨_, e, rfl⟩ (fun s' => typeIs_int s' k t) noFill_list_mul F.fills_int_mul F.slot_int_rmul repeat_list F.slot_int_index.lookup
    (call_meets F.slot_int_rmul (typeIs_int s k t) F.entry_int_rmul (F.args_int_rmul_2 _ _) (int___rmul___int_list k t l its.toArray n)
      ⟨e, rfl, ⟨_, e, rfl⟩, call_meets F.slot_list_mul ⟨_, e, rfl⟩ F.entry_list_mul (F.args_list_mul_2 _ _) (AutoListH.list___mul___list_int_3 l its.toArray n k t hfit hcap hlong) ⟨e, ?_⟩⟩)
  rw [hnew]
  exact ⟨.ref _, _, I.lnew (t' := s.toks) (r.rep k.toNat) (by rw [len_rep, Nat.mul_comm]; exact hz), rfl, q _ I.fresh⟩

end

section
variable {prog : Program} {w : World} {A : Around} {E : Value → Shared → Prop} {s : Shared}
end

section
variable {X : Cx}
end
end L2

namespace L2
open PySem PySem.Spec PyProof.Rows

section
variable {κ : Type} [DecidableEq κ]
def valV (kvs : List (κ × V)) (k : κ) : Option V := (kvs.find? fun kv => decide (kv.1 = k)).map (·.2)
def putK (kvs : List (κ × V)) (k : κ) (v : V) : List (κ × V) :=
  if (kvs.any fun kv => decide (kv.1 = k)) = true then kvs.map (fun kv => if kv.1 = k then (kv.1, v) else kv) else kvs ++ [(k, v)]
theorem valV_pos {p : κ × V} {r : List (κ × V)} {k : κ} (e : p.1 = k) : valV (p :: r) k = some p.2 := by simp [valV, List.find?_cons, e]
theorem valV_neg {p : κ × V} {r : List (κ × V)} {k : κ} (e : ¬ p.1 = k) : valV (p :: r) k = valV r k := by simp [valV, List.find?_cons, e]
theorem valV_any (k : κ) : ∀ kvs : List (κ × V), (kvs.any fun kv => decide (kv.1 = k)) = (valV kvs k).isSome
  | [] => rfl
  | p :: r => by
    rw [List.any_cons]
    by_cases e : p.1 = k
    · simp only [valV_pos e, decide_eq_true e, Bool.true_or, Option.isSome_some]
    · rw [valV_neg e, decide_eq_false e, Bool.false_or]; exact valV_any k r
theorem length_putK (kvs : List (κ × V)) (k : κ) (v : V) : (putK kvs k v).length ≤ kvs.length + 1 := by
  unfold putK
  split
  · rw [List.length_map]; lia
  · rw [List.length_append, List.length_cons, List.length_nil]; lia
theorem RelO.isSome_eq {o : Option V} {u : Option Value} (r : RelO o u) : o.isSome = u.isSome := by
  cases o with
  | none => cases u with
    | none => rfl
    | some _ => exact (show False from r).elim
  | some _ => cases u with
    | none => exact (show False from r).elim
    | some _ => rfl
theorem KV.val {kvs : List (κ × V)} {vs : List (κ × Value)} (r : KV kvs vs) (k : κ) : RelO (valV kvs k) (valueAt vs k) := by
  unfold KV at r
  induction r with
  | nil => exact True.intro
  | @cons p q ps qs h t ih =>
    obtain ⟨h1, h2⟩ := h
    by_cases e : p.1 = k
    · have e' : q.1 = k := h1.symm.trans e
      have b : valueAt (q :: qs) k = some q.2 := by simp [valueAt, List.find?_cons, e']
      rw [valV_pos e, b]; exact h2
    · have e' : ¬ q.1 = k := fun z => e (h1.trans z)
      have b : valueAt (q :: qs) k = valueAt qs k := by simp [valueAt, List.find?_cons, e']
      rw [valV_neg e, b]; exact ih
theorem KV.any {kvs : List (κ × V)} {vs : List (κ × Value)} (r : KV kvs vs) (k : κ) : (kvs.any fun kv => decide (kv.1 = k)) = vs.any fun kv => decide (kv.1 = k) := by
  unfold KV at r
  induction r with
  | nil => rfl
  | cons h t ih => rw [List.any_cons, List.any_cons, ih, h.1]
theorem KV.repl {kvs : List (κ × V)} {vs : List (κ × Value)} (r : KV kvs vs) (k : κ) {y : V} {u : Value} (ry : RelV y u) :
    KV (kvs.map fun kv => if kv.1 = k then (kv.1, y) else kv) (vs.map fun kv => if kv.1 = k then (kv.1, u) else kv) := by
  unfold KV at r ⊢
  induction r with
  | nil => exact .nil
  | @cons p q ps qs h t ih =>
    rw [List.map_cons, List.map_cons]
    refine .cons ?_ ih
    obtain ⟨h1, h2⟩ := h
    by_cases e : p.1 = k
    · rw [if_pos e, if_pos (h1.symm.trans e)]; exact ⟨h1, ry⟩
    · rw [if_neg e, if_neg (fun z => e (h1.trans z))]; exact ⟨h1, h2⟩
theorem KV.put {kvs : List (κ × V)} {vs : List (κ × Value)} (r : KV kvs vs) (k : κ) {y : V} {u : Value} (ry : RelV y u) : KV (putK kvs k y) (stored vs k u) := by
  unfold putK stored
  rw [r.any k]
  by_cases e : (vs.any fun kv => decide (kv.1 = k)) = true
  · rw [if_pos e, if_pos e]; exact r.repl k ry
  · rw [if_neg e, if_neg e]; exact Paired.snoc r ⟨rfl, ry⟩
theorem KV.keys {kvs : List (κ × V)} {vs : List (κ × Value)} (r : KV kvs vs) : kvs.map (·.1) = vs.map (·.1) := by
  unfold KV at r
  induction r with
  | nil => rfl
  | cons h t ih => rw [List.map_cons, List.map_cons, ih, h.1]
theorem KV.length {kvs : List (κ × V)} {vs : List (κ × Value)} (r : KV kvs vs) : kvs.length = vs.length := Paired.length r
end


theorem kV_is {P : Program} {w : World} {k : Key} {u : Value} (r : RelV (kV k) u) : (mixKind P w).is k u = true := by
  cases k with
  | inl i => obtain ⟨t, e⟩ := (show ∃ t, u = Value.int i t from r); subst e; exact mixKind_int P w i t
  | inr x => obtain ⟨t, e⟩ := (show ∃ t, u = Value.str x t from r); subst e; exact mixKind_str P w x t
theorem items_are {P : Program} {w : World} : ∀ {ks : List Key} {us : List Value}, Vals (ks.map kV) us → ItemsAre (mixKind P w) ks us
  | [], _, r => by rw [List.map_nil] at r; cases r; exact .nil
  | k :: ks, _, r => by
    rw [List.map_cons] at r
    cases r with
    | cons h t => exact .cons (kV_is h) (items_are t)

abbrev KT (H : Hp) : List (List Key × V) → List (List Key × Addr × Value) → Prop := Paired fun p q => p.1 = q.1 ∧ H q.2.1 = some (.tup (p.1.map kV)) ∧ RelV p.2 q.2.2
theorem KT.val {H : Hp} {kvs : List (List Key × V)} {xs : List (List Key × Addr × Value)} (r : KT H kvs xs) (k : List Key) : RelO (valV kvs k) ((atKey xs k).map (·.2)) := by
  induction r with
  | nil => exact True.intro
  | @cons p q ps qs h t ih =>
    obtain ⟨h1, _, h2⟩ := h
    by_cases e : p.1 = k
    · have e' : q.1 = k := h1.symm.trans e
      have b : atKey (q :: qs) k = some q.2 := by simp [atKey, List.find?_cons, e']
      rw [valV_pos e, b]; exact h2
    · have e' : ¬ q.1 = k := fun z => e (h1.trans z)
      have b : atKey (q :: qs) k = atKey qs k := by simp [atKey, List.find?_cons, e']
      rw [valV_neg e, b]; exact ih
theorem KT.repl {H : Hp} {kvs : List (List Key × V)} {xs : List (List Key × Addr × Value)} (r : KT H kvs xs) (k : List Key) {y : V} {u : Value} (ry : RelV y u) :
    KT H (kvs.map fun kv => if kv.1 = k then (kv.1, y) else kv) (xs.map (putAt k u)) := by
  induction r with
  | nil => exact .nil
  | @cons p q ps qs h t ih =>
    rw [List.map_cons, List.map_cons]
    refine .cons ?_ ih
    obtain ⟨h1, h2, h3⟩ := h
    unfold putAt
    by_cases e : p.1 = k
    · rw [if_pos e, if_pos (h1.symm.trans e)]; exact ⟨h1, h2, ry⟩
    · rw [if_neg e, if_neg (fun z => e (h1.trans z))]; exact ⟨h1, h2, h3⟩
theorem KT.put {H : Hp} {kvs : List (List Key × V)} {xs : List (List Key × Addr × Value)} (r : KT H kvs xs) (k : List Key) {b : Addr} {y : V} {u : Value} (hb : H b = some (.tup (k.map kV))) (ry : RelV y u) :
    KT H (putK kvs k y) (storedH xs k b u) := by
  have e : (kvs.any fun kv => decide (kv.1 = k)) = (atKey xs k).isSome := by
    rw [valV_any, (r.val k).isSome_eq, Option.isSome_map]
  unfold putK storedH
  rw [e]
  by_cases q : (atKey xs k).isSome = true
  · rw [if_pos q, if_pos q]; exact r.repl k ry
  · rw [if_neg q, if_neg q]; exact Paired.snoc r ⟨rfl, hb, ry⟩
theorem KT.keeps {H H' : Hp} {kvs : List (List Key × V)} {xs : List (List Key × Addr × Value)} (r : KT H kvs xs) (ht : ∀ b ys, H b = some (.tup ys) → H' b = some (.tup ys)) : KT H' kvs xs :=
  Paired.mapP r fun _ _ z => ⟨z.1, ht _ _ z.2.1, z.2.2⟩

section
variable {P : Program} {w : World} {H : Hp} {h : Heap} {a : Addr}
theorem rd_of {u : HO} (ok : HOk P w H h) (e : Rd H a u) : ObjOk P w H h a u := e.ok ok
theorem dk_rd {kvs : List (Key × V)} (ok : HOk P w H h) (e : Rd H a (.dK kvs)) : kvs.length ≤ sizeLine ∧ (a == sysModules) = false ∧ ∃ vs, KV kvs vs ∧ h.DictOf (mixKind P w) a vs :=
  show ObjOk P w H h a (.dK kvs) from rd_of ok e
theorem dk_of {kvs : List (Key × V)} (ok : HOk P w H h) (e : H a = some (.dK kvs)) : kvs.length ≤ sizeLine ∧ (a == sysModules) = false ∧ ∃ vs, KV kvs vs ∧ h.DictOf (mixKind P w) a vs := dk_rd ok (.inl e)
theorem key_of {ks : List Key} (ok : HOk P w H h) (e : H a = some (.tup (ks.map kV))) : (tupleKind (mixKind P w)).is h ks a := by
  obtain ⟨_, its, r, o, h1, h2, n, h3⟩ := (show ObjOk P w H h a (.tup (ks.map kV)) from ok a _ e)
  exact ⟨o, its.toArray, n, h1, h2, h3, by simpa using items_are r⟩
theorem dt_rd {kvs : List (List Key × V)} (ok : HOk P w H h) (e : Rd H a (.dT kvs)) : kvs.length ≤ sizeLine ∧ (a == sysModules) = false ∧
    ∃ xs, KT H kvs xs ∧ h.DictOfH (tupleKind (mixKind P w)) a xs := by
  obtain ⟨z, y, xs, r, o, es, ep, h1, h2, h3, h4, h5⟩ := (show ObjOk P w H h a (.dT kvs) from rd_of ok e)
  refine ⟨z, y, xs, r, o, es, ep, h1, h2, h3, h4, fun x hx => ?_, h5⟩
  have all : ∀ {l : List (List Key × V)} {m : List (List Key × Addr × Value)}, KT H l m → ∀ x ∈ m, (tupleKind (mixKind P w)).is h x.1 x.2.1 := by
    intro l m q
    induction q with
    | nil => intro x hx; exact nomatch hx
    | @cons p q ps qs hq t ih =>
      intro x hx
      rcases List.mem_cons.mp hx with e | hx
      · subst e
        exact key_of ok (by rw [← hq.1]; exact hq.2.1)
      · exact ih x hx
  exact all r x hx
theorem dt_of {kvs : List (List Key × V)} (ok : HOk P w H h) (e : H a = some (.dT kvs)) : kvs.length ≤ sizeLine ∧ (a == sysModules) = false ∧
    ∃ xs, KT H kvs xs ∧ h.DictOfH (tupleKind (mixKind P w)) a xs := dt_rd ok (.inl e)
end

def DPut (H : Hp) (a : Addr) (y v : V) (H' : Hp) : Prop :=
  (∃ kvs k, H a = some (.dK kvs) ∧ y = kV k ∧ kvs.length < sizeLine ∧ H' = upd H a (.dK (putK kvs k v))) ∨
  ∃ kvs k b, H a = some (.dT kvs) ∧ y = .ref b ∧ H b = some (.tup (k.map kV)) ∧ kvs.length < sizeLine ∧ H' = upd H a (.dT (putK kvs k v))
theorem DPut.k {H : Hp} {a : Addr} {kvs : List (Key × V)} {k : Key} {v : V} (e : H a = some (.dK kvs)) (hl : kvs.length < sizeLine) : DPut H a (kV k) v (upd H a (.dK (putK kvs k v))) := .inl ⟨kvs, k, e, rfl, hl, rfl⟩
section
variable {X : Cx} {pins : List (Addr × Obj)} {σ : St} {H : Hp} {s : Shared} {a : Addr} {y v : V} {u r : Value} {o : Option V} {A : Around} {E : Value → Shared → Prop}

theorem Inv.big (I : Inv X pins σ H s) : sysModules < s.heap.objs.size := by
  have h : mainGlobals < s.heap.objs.size := (I.mod.glob.keeps I.bk).lt
  exact Nat.lt_trans (by decide) h

theorem d_write {h' : Heap} {t' : Nat} {ob : HO} (I : Inv X pins σ H s) (mu : Mut (H a)) (hs : Heap.SameBut a s.heap h') (he : ∃ q, h'.get? a = some q) (new : ObjOk X.prog X.w (upd H a ob) h' a ob) :
    Inv X pins σ (upd H a ob) { s with heap := h', toks := t' } :=
  I.write (x := a) (e := a) mu (.inl rfl) (fun b q hb z => (hs.2 b hb).trans z) he new
theorem dk_new {P : Program} {w : World} {H' : Hp} {h' : Heap} {kvs : List (Key × V)} {vs : List (Key × Value)} (z : kvs.length ≤ sizeLine) (hd : (a == sysModules) = false) (rel : KV kvs vs) (dd : h'.DictOf (mixKind P w) a vs) :
    ObjOk P w H' h' a (.dK kvs) := ⟨z, hd, vs, rel, dd⟩
theorem d_setItem {H' : Hp} {Q : Unit → Shared → Prop} (hu : A.units + 1 < cLine) (I : Inv X pins σ H s) (g : DPut H a y v H') (ry : RelV y u) (rv : RelV v r) (h : ∀ s', Inv X pins σ H' s' → Q () s') :
    wpAny (model X.prog X.w) A (setItem (.ref a) u r) Q E s := by
  rcases g with ⟨kvs, k, e, ey, l, eH⟩ | ⟨kvs, k, b, e, ey, eb, l, eH⟩
  · subst ey eH
    obtain ⟨z, hd, vs, rel, dd⟩ := dk_of I.hok e
    have hz : vs.length ≤ sizeLine := by rw [← rel.length]; exact z
    have hl : (putK kvs k v).length ≤ sizeLine := by have := length_putK kvs k v; lia
    refine wpAny_setItem_pairs (hsz := hz) (kV_is ry) dd fun h' dd' hs => h _ ?_
    have he : ∃ q, h'.get? a = some q := let ⟨q, _, _, hq, _⟩ := dd'; ⟨q, hq⟩
    exact d_write I (by rw [e]; exact True.intro) hs he (dk_new hl hd (rel.put k rv) dd')
  · subst ey eH
    cases (show u = Value.ref b from ry)
    obtain ⟨z, hd, xs, rel, dd⟩ := dt_of I.hok e
    have hz : xs.length ≤ sizeLine := by rw [← Paired.length rel]; exact z
    have hl : (putK kvs k v).length ≤ sizeLine := by have := length_putK kvs k v; lia
    refine wpAny_setItem_heap (hsz := hz) (tupleKind_room_in1 hu) (key_of I.hok eb) dd fun h' dd' hs => h _ ?_
    obtain ⟨q, es, ep, hq, h2, h3, h4, _, h5⟩ := dd'
    refine d_write I (by rw [e]; exact True.intro) hs ⟨q, hq⟩ ⟨hl, hd, _, (rel.put k eb rv).keeps fun c ys ec => ?_, q, es, ep, hq, h2, h3, h4, h5⟩
    rw [upd_ne (ne_of ec e (fun z => nomatch z))]
    exact ec
end

section
variable {X : Cx} {pins : List (Addr × Obj)} {σ : St} {H : Hp} {s : Shared} {a : Addr} {kvs : List (Key × V)} {k : Key} {u : Value} {A : Around} {E : Value → Shared → Prop}
end


def NoSl (i : Expr) : Prop := ∀ ov iv, subscripted i false ov iv = operate [ov, iv] (getItem ov iv)
theorem subD_of {prog : Program} {w : World} {A : Around} {E : Value → Shared → Prop} {s : Shared} {env : Env} {value slice : Expr} {pos : Pos} {T id : String} {Q : Value → Shared → Prop}
    (hl : typeLookup (.type T) "__getitem__" = pure (some (.builtin id))) (hs : NoSl slice)
    (h : wpAny (model prog w) A (eval value env) (fun o s₁ => wpAny (model prog w) A (eval slice env) (fun i s₂ => s₂.TypeIs o T ∧ wpAny (model prog w) A (getItem o i) Q E s₂) E s₁) E s) :
    wpAny (model prog w) A (eval (.Subscript value slice pos) env) Q E s := by
  refine Subscript_ (wpAny_mono h (fun o s₁ h₁ => wpAny_mono h₁ (fun i s₂ h₂ => ?_) fun _ _ x => x) fun _ _ x => x)
  obtain ⟨hT, h₂⟩ := h₂
  unfold subscriptTail
  refine wpAny_bind ?_
  rw [getitemInPython_of_ne hT.not_modules]
  refine wpAny_bind (wpAny_specialOf hT hl ?_)
  have fin : wpAny (model prog w) A (subscripted slice false o i) (fun r s₃ => wpAny (model prog w) A (letTemporaryGo value o r >>= fun _ => pure r) Q E s₃) E s₂ := by
    rw [hs o i]
    exact wpAny_operating (wpAny_mono h₂ (fun r s₃ h₃ => wpAny_bind (wpAny_letTemporaryGo (wpAny_pure h₃))) fun _ _ x => x)
  first
    | exact wpAny_pure (wpAny_bind fin)
    | exact wpAny_bind (wpAny_pure (wpAny_bind fin))
    | exact wpAny_bind fin

def sDPut (td ty tv : TE) : TS := fun D σ H => tv σ H fun v H1 => td σ H1 fun x H2 => ty σ H2 fun y H3 => ∃ a H4, x = .ref a ∧ DPut H3 a y v H4 ∧ D.nx σ H4
section
variable {X : Cx} {o i e value : Expr} {pos pos' tpos : Pos} {td ty tv : TE}
theorem ps_dput (hu : X.A.units + 1 < cLine) (ho : PE X o td) (hi : PE X i ty) (hv : PE X value tv) (hs : swapsWith value (some (.Subscript o i pos')) pos.line X.env = pure false) :
    PS X (.Assign [.Subscript o i pos'] value pos) (sDPut td ty tv) := by
  intro pins s σ H D I h
  refine wpAny_Assign_Subscript (thn (hv pins s σ H _ I h) fun r s1 zq => zq.elim fun v H1 I1 rv q1 => thn (ho pins s1 σ H1 _ I1 q1) fun u s2 zq => zq.elim fun x H2 I2 rx q2 => thn (hi pins s2 σ H2 _ I2 q2) fun iv s3 ⟨y, H3, I3, ry, a, H4, ex, g, q3⟩ => ?_) hs
  subst ex
  obtain rfl : u = Value.ref a := rx
  exact d_setItem hu I3 g ry rv fun s4 I4 => ⟨σ, H4, I4, q3⟩
end


theorem dk_empty {P : Program} {w : World} {H : Hp} (h : Heap) (hb : sysModules < h.objs.size) : ObjOk P w H (h.push { cls := .type "dict", data := .dict #[] }) h.objs.size (.dK []) :=
  ⟨Nat.zero_le _, beq_eq_false_iff_ne.mpr (Ne.symm (Nat.ne_of_lt hb)), [], .nil, Heap.DictOf.new h⟩
def tDNewK : TE := fun _ H Q => New H (.dK []) Q
section
variable {X : Cx} {pos : Pos}
theorem pe_dnewK : PE X (.Dict [] [] pos) tDNewK := fun pins s σ H Q I h =>
  wpAny_Dict_empty ⟨.ref s.heap.objs.size, _, I.laid (a := s.heap.objs.size) (o := .dK []) (t' := s.toks) (fun _ _ q => Heap.get?_push_of_some _ q) (Nat.le_refl _) (dk_empty s.heap I.big), rfl, h _ (I.hok.fresh (Nat.le_refl _))⟩
end

section
variable {X : Cx} {pins : List (Addr × Obj)} {σ : St} {H : Hp} {s : Shared} {a : Addr} {y d : V} {u r : Value} {o : Option V} {A : Around} {E : Value → Shared → Prop}
end

section
variable {X : Cx} {o e f : Expr} {apos cpos : Pos} {td ty tx : TE}
end

section
variable {X : Cx} {pins : List (Addr × Obj)} {σ : St} {H : Hp} {s : Shared} {a : Addr} {kvs : List (Key × V)} {A : Around} {E : Value → Shared → Prop}
end


section
variable {X : Cx} {pins : List (Addr × Obj)} {σ : St} {H : Hp} {s : Shared} {a : Addr} {y : V} {u : Value} {A : Around} {E : Value → Shared → Prop}
end
end L2

namespace Att
open PySem PySem.W PySem.Calls PyProof.Rows

theorem ints_of_wellAll {P : Params} {h : Heap} : ∀ (ns : List Int) (vs : List Value), WellAll P h vs (ns.map WData.int) → IntsAre vs ns := by
  intro ns
  induction ns with
  | nil =>
    intro vs w
    rw [List.map_nil] at w
    cases w
    exact .nil
  | cons n ns ih =>
    intro vs w
    rw [List.map_cons] at w
    cases w with
    | cons a b =>
      cases a
      exact .cons _ _ (ih _ b)

theorem script_of {l : OpenLaw} {n : Nat} (hn : l.most = some n) {P : Params} {h : Heap} {args : List WData} {vals : List Value}
    (hpre : l.row.toRowW.claim.pre args = true) (hwl : WellAll P h vals args) :
    ∃ a vs ns, vals = [Value.ref a] ∧ args = [WData.list (ns.map WData.int)] ∧ h.get? a = some { cls := .type "list", data := .seq vs.toArray } ∧ IntsAre vs ns ∧ ns.length ≤ n := by
  have hsh : WShape.hasAll [] args [.list .int] = true := (pre_splitW hpre).1
  have hc : l.pre.holds [] { args := args } = true := (pre_splitW hpre).2
  obtain ⟨d, r, rfl, h1, h2⟩ := hasAllW_cons hsh
  obtain rfl := hasAllW_nil h2
  obtain ⟨xs, rfl, h3⟩ := hasW_list h1
  obtain ⟨ns, rfl⟩ := items_int h3
  have hlen : ns.length ≤ n := by
    unfold OpenLaw.pre at hc
    have h4 : (WTm.not (.lt (.lit (.int (n : Int))) (.len (.arg 0)))).holds [] { args := [.list (ns.map .int)] } = true := by
      have h4 := (holds_andW hc).1
      rw [hn] at h4
      exact h4
    have h5 := condW_of h4 (w_not (w_lt w_lit (w_len_list (w_arg rfl))))
    rw [List.length_map] at h5
    refine Nat.le_of_not_lt fun q => ?_
    have q' : (n : Int) < ((ns.length : Nat) : Int) := by lia
    first
      | (rw [decide_eq_true q'] at h5; exact absurd h5 (by decide))
      | (simp at h5; lia)
  cases hwl with
  | cons w1 w2 =>
    cases w2
    cases w1 with
    | list ho hall => exact ⟨_, _, ns, rfl, rfl, ho, ints_of_wellAll ns _ hall, hlen⟩

theorem post_true (l : OpenLaw) (args : List WData) : l.row.toRowW.claim.post args (.bool true) args = true :=
  postW_of (r := l.row.toRowW) (X := (true == true))
    (show WShape.has [] (.bool true) .bool = true by first | rfl | decide | simp [WShape.has, WShape.arms, WShape.armsAll])
    (show (WTm.eq .res (.lit (.bool true))).value [] { args := args, res := some (.bool true), after := args } = some (.bool (true == true)) from w_eq_bool (w_res rfl) w_lit) rfl

theorem attach_call {l : OpenLaw} {n : Nat} {q : Program} {loose : List Str} {XP : (Str → Option Value) → Heap → Prop} {YP : World → Heap → Prop} {d : DefRec}
    (hn : l.most = some n) (hdf : d.params.defaults = [])
    (call : ∀ (w : World) (s₀ s₁ : Shared) (mg mb : Str → Option Value) (fa : Addr) (o : Obj) (pm cd doc : Value) (a : Addr) (vs : List Value) (ns : List Int),
      Ground q loose [] XP w s₀ mg mb s₁.heap → YP w s₁.heap →
      s₁.heap.get? fa = some o → o.data = .func (docDef d.name d.params d.body d.scope pm cd doc) → s₁.heap.CodeRec cd d.name → mg d.name = some (.ref fa) →
      s₁.heap.get? a = some { cls := .type "list", data := .seq vs.toArray } → IntsAre vs ns → ns.length ≤ n → s₁.gens = #[] →
      codeAny (model l.prog w) callerA (.call (.ref fa) ⟨[.ref a], []⟩) (fun r s' => r = .ok (.ret (.bool true)) ∧ OldK s₁.heap s'.heap ∧ s'.os = s₁.os ∧ AllBare s'.gens) s₁) :
    WalkO q loose XP YP l.row.toRowW d [] (fun f vs => PySem.call f vs) := by
  intro w s₀ s₁ mg mb G Y fa o pm cd doc dV kV ho hd hcd hD hmg hg args vals as hpre hlay hrd hwl hlo
  obtain rfl : dV = .none := Dflts.none hD hdf
  obtain rfl : kV = .none := Dflts.noKw hD
  obtain ⟨a, vs, ns, rfl, rfl, hobj, hints, hlen⟩ := script_of hn hpre hwl
  refine enter_call (codeAny_mono (call w s₀ s₁ mg mb fa o pm cd doc a vs ns G Y ho (fd_plain hd) hcd hmg hobj hints hlen hg) fun r s' hq => ?_)
  obtain ⟨rfl, h2, h3, h4⟩ := hq
  exact ⟨.inl ⟨.bool true, .bool true, [], rfl, fun _ => rfl, .bool true, post_true l _, fun _ => ⟨List.Pairwise.nil, fun _ hm => (nomatch hm)⟩⟩, h2, h3, h4⟩

section
variable {prog : Program} {w : World} {A : Around} {E : Value → Shared → Prop} {s : Shared} {K : Frag}

end
end Att

namespace L2
open PySem PySem.Spec PyProof.Rows

theorem vals_ints {vs : List Value} {ns : List Int} (h : IntsAre vs ns) : Vals (ns.map V.int) vs := by
  induction h with
  | nil => exact .nil
  | cons n t _ ih => exact .cons ⟨t, rfl⟩ ih

def Only (H : Hp) : Prop := ∀ b, H b = none ∨ ∃ o xs, H b = some (.frz o (.lst xs))

theorem law_call {P : Program} {w : World} {K : PySem.W.Frag} {mg mb : Str → Option Value} {CX : CXT} {k : Nat} {fa a : Addr} {fd : FuncData} {x : Str} {sp : Sp} {s₁ : Shared} {vs : List Value} {ns : List Int}
    (KX : K.In s₁.heap) (hns : s₁.heap.Ns mainGlobals mg) (hb : s₁.heap.Ns builtinsNs mb) (hbb : ∀ x : Str, x ≠ "__name__" → mb x = bootBuiltins x) (hlim : s₁.heap.NoLimit) (hg : s₁.gens = #[])
    (ha : s₁.heap.get? a = some { cls := .type "list", data := .seq vs.toArray }) (hi : IntsAre vs ns) (hl : ns.length ≤ sizeLine) (hr : Room k callerA)
    (F : ∀ base : Heap, K.In base → base.Ns mainGlobals mg → FnOk P w K mg base CX k fa fd [x] sp) (hbind : ∀ (s : Shared) (u : Value), BindsTo s fd ⟨[u], []⟩ [(x, u)])
    (hsp : ∀ H : Hp, Only H → SqL K H a (ns.map V.int) → sp [.ref a] H (fun v _ => v = .bl true) fun _ _ _ => False)
    (hCX : ∀ H e s', CX [] H s₁ (fun _ _ _ => False) e s' → False) :
    codeAny (model P w) callerA (.call (.ref fa) ⟨[.ref a], []⟩) (fun r s' => r = .ok (.ret (.bool true)) ∧ OldK s₁.heap s'.heap ∧ s'.os = s₁.os ∧ AllBare s'.gens) s₁ := by
  have rv := vals_ints hi
  have lenV := hi.length
  have core : ∀ H : Hp, Only H → SqL K H a (ns.map V.int) → HOk P w H s₁.heap → (∀ b, H b ≠ none → b = a) → (H a ≠ none → K.lookup a = none) →
      codeAny (model P w) callerA (.call (.ref fa) ⟨[.ref a], []⟩) (fun r s' => r = .ok (.ret (.bool true)) ∧ OldK s₁.heap s'.heap ∧ s'.os = s₁.os ∧ AllBare s'.gens) s₁ := by
    intro H hO hS hok hA hK
    have base_of : ∀ {b : Addr} {o : Obj}, s₁.heap.get? b = some o → H b = none → (hidT s₁.heap H).get? b = some o := fun e n => hidT_get e n
    have noA : ∀ {b : Addr} {o : Obj} {es : Array DictEntry} {ep : Nat}, s₁.heap.get? b = some o → o.data = .dict es ep → H b = none := fun {b o es ep} e d => by
      cases q : H b with
      | none => rfl
      | some u =>
        have e' : b = a := hA b (by rw [q]; simp)
        subst e'
        rw [ha] at e; cases e
        have d' : Data.seq vs.toArray _ = Data.dict es ep := d
        cases d'
    have nsK : ∀ {b : Addr} {m : Str → Option Value}, s₁.heap.Ns b m → (hidT s₁.heap H).Ns b m := fun {b m} ⟨o, es, ep, e, d, r⟩ => ⟨o, es, ep, base_of e (noA e d), d, r⟩
    have hKb : K.In (hidT s₁.heap H) := fun b o e => base_of (KX b o e) (by
      cases q : H b with
      | none => rfl
      | some u =>
        have e' : b = a := hA b (by rw [q]; simp)
        subst e'
        rw [hK (by rw [q]; simp)] at e; cases e)
    have hM : Mod K mg (hidT s₁.heap H) := ⟨hKb, nsK hns, ⟨mb, nsK hb, hbb⟩, let ⟨mc, h1, h2⟩ := hlim; ⟨mc, nsK h1, h2⟩⟩
    have e0 : Env0 P w K mg (hidT s₁.heap H) callerA [] s₁ H := ⟨rfl, hM, fun b o e => of_hidT e, Nat.le_of_eq (hidT_size _ _), trivial, fun b hb => absurd (show b ∈ ([] : List Addr) from hb) (by simp), hok, .of_eq hg⟩
    refine codeAny_mono ((F _ hKb (nsK hns)).run callerA [] s₁ H ⟨[.ref a], []⟩ [.ref a] [.ref a] _ _ hr e0 (hbind s₁ (.ref a)) (.cons rfl .nil) (hsp H hO hS)) fun r s' h => ?_
    cases r with
    | error e => exact (hCX H e s' h).elim
    | ok fl =>
      cases fl with
      | next => exact False.elim h
      | brk => exact False.elim h
      | cont => exact False.elim h
      | ret u =>
        obtain ⟨v, H', os, bare, un, hok', r', q⟩ := h
        have q' : v = .bl true := q
        subst q'
        obtain rfl : u = Value.bool true := r'
        refine ⟨rfl, OldK.of_keep fun b o e => ?_, os, bare⟩
        cases q : H b with
        | none => exact un.keep b o e q (by intro z; exact absurd (show b ∈ ([] : List Addr) from z) (by simp)) (by simp)
        | some u =>
          rcases hO b with z | ⟨ob, xs, z⟩
          · rw [q] at z; cases z
          · have z2 := un.frzs b ob _ z
            obtain ⟨e1, _⟩ := hok b _ z
            obtain ⟨e2, _⟩ := hok' b _ z2
            rw [e] at e1; cases e1
            exact e2
  cases hk : K.lookup a with
  | some o =>
    have e := KX a o hk
    rw [ha] at e
    cases e
    refine core (fun _ => none) (fun _ => .inl rfl) (.inr ⟨_, vs.toArray, _, hk, rfl, rfl, rfl, by rw [List.size_toArray, lenV]; exact hl, by simpa using rv⟩) (fun b u z => by have z' : (none : Option HO) = some u := z; cases z') (fun b z => absurd rfl z) fun z => absurd rfl z
  | none =>
    refine core (fun b => if b = a then some (.frz { cls := .type "list", data := .seq vs.toArray } (.lst (ns.map V.int))) else none) (fun b => ?_) (.inl (.inr ⟨{ cls := .type "list", data := .seq vs.toArray }, if_pos rfl⟩)) (fun b u z => ?_) (fun b z => ?_) fun _ => hk
    · by_cases hb : b = a
      · exact .inr ⟨_, _, if_pos hb⟩
      · exact .inl (if_neg hb)
    · by_cases hb : b = a
      · have z' := (if_pos hb).symm.trans z
        cases z'
        subst hb
        exact ⟨ha, by rw [List.length_map]; exact hl, vs, _, rv, ha⟩
      · have z' := (if_neg hb).symm.trans z
        cases z'
    · by_cases hb : b = a
      · exact hb
      · exact absurd (if_neg hb) z
end L2

namespace L2
open PySem PySem.Spec PyProof.Rows

theorem walk_of {l : PySem.W.OpenLaw} {n k : Nat} {q : Program} {loose : List Str} {XP : (Str → Option Value) → Heap → Prop} {YP : World → Heap → Prop} {d : DefRec} {K : Params → PySem.W.Frag} {CX : World → CXT} {sp : World → Sp} {x : Str}
    (hn : l.most = some n) (hn2 : n ≤ sizeLine) (hdf : d.params.defaults = []) (hr : Room k callerA)
    (hY : ∀ (w : World) (h : Heap), YP w h → (K w.params).In h)
    (F : ∀ (w : World) (mg : Str → Option Value) (fa : Addr) (h : Heap), (K w.params).In h → h.Ns mainGlobals mg → mg d.name = some (.ref fa) →
      ∃ fd : FuncData, (∀ (s : Shared) (u : Value), BindsTo s fd ⟨[u], []⟩ [(x, u)]) ∧
        ∀ base : Heap, (K w.params).In base → base.Ns mainGlobals mg → FnOk l.prog w (K w.params) mg base (CX w) k fa fd [x] (sp w))
    (hsp : ∀ (w : World) (H : Hp) (a : Addr) (ns : List Int), ns.length ≤ n → Only H → SqL (K w.params) H a (ns.map V.int) → sp w [.ref a] H (fun v _ => v = .bl true) fun _ _ _ => False)
    (hCX : ∀ (w : World) (H : Hp) (s : Shared) (e : Value) (s' : Shared), CX w [] H s (fun _ _ _ => False) e s' → False) :
    PySem.W.WalkO q loose XP YP l.row.toRowW d [] (fun f vs => PySem.call f vs) := by
  refine Att.attach_call hn hdf fun w s₀ s₁ mg mb fa o pm cd doc a vs ns G Y ho hd hcd hmg hobj hints hlen hg => ?_
  have KX := hY w _ Y
  obtain ⟨fd, hb, hF⟩ := F w mg fa _ KX G.T.g hmg
  exact law_call KX G.T.g G.T.b G.T.builtins G.T.nolimit hg hobj hints (Nat.le_trans hlen hn2) hr hF hb (fun H hO hS => hsp w H a ns hlen hO hS) fun H e s' => hCX w H s₁ e s'
end L2



namespace L2
open PySem PySem.Spec PyProof.Rows

def inClass (s : Stmt) (j : Nat) : Stmt := match s with
  | .ClassDef _ _ _ body _ _ _ _ _ _ _ => body.getD j (.Pass ⟨0, 0, 0, 0⟩)
  | _ => .Pass ⟨0, 0, 0, 0⟩
def defArgs (s : Stmt) : Arguments := match s with
  | .FunctionDef _ a _ _ _ _ _ _ _ _ => a
  | _ => { posonlyargs := [], args := [], vararg := none, kwonlyargs := [], kw_defaults := [], kwarg := none, defaults := [] }
def defBody (s : Stmt) : List Stmt := match s with
  | .FunctionDef _ _ b _ _ _ _ _ _ _ => b
  | _ => []
def defScope (s : Stmt) : Scope := match s with
  | .FunctionDef _ _ _ _ _ _ sc _ _ _ => sc
  | _ => { kind := .function, names := [], isGenerator := false, isCoroutine := false }

abbrev CX0 : CXT := fun _ _ _ _ _ _ => False
abbrev E0 : XK := fun _ _ _ => False
theorem pass0 {X : Cx} : Passes CX0 X E0 := fun _ _ _ _ _ _ _ h => h.elim

structure Fun (K : PySem.W.Frag) (x qual : Str) (st : Stmt) (f : Addr) (fd : FuncData) : Prop where
  ex : ∃ (oc : Value) (od : Option Addr) (kV doc pm : Value) (an : Option Addr) (cdv ct : Value) (osl : Array (Option Value)),
    fd = PySem.W.fnOf x qual (defArgs st) (defBody st) (defScope st) .none kV doc pm an cdv ct ∧ K.lookup f = some ⟨oc, od, .func fd, osl⟩ ∧ PySem.W.codeIn K cdv qual = true
  kp : PySem.W.keepIn K (.ref f) = true
section
variable {P : Program} {w : World} {K : PySem.W.Frag} {mg : Str → Option Value} {base : Heap}
theorem Fun.ok {x qual : Str} {st : Stmt} {f : Addr} {fd : FuncData} {N ps : List Str} {k : Nat} {sp : Sp} (F : Fun K x qual st f fd) (S : FnScope N ps (defScope st)) (len : ∀ vs H Q E, sp vs H Q E → vs.length = ps.length)
    (hbody : ∀ (cdv : Value) (A : Around) (outer : List Env) (s : Shared) (H : Hp) (vs : List V) (e : Ends) (E : XK), (∀ {σ H}, e.rt .non H → e.nx σ H) → Room k (A.deeper (envOfC qual (defScope st) s.heap.objs.size f cdv)) → sp vs H e.rt E →
      ∃ t, PSs (cxOf CX0 P w K mg base N qual (defScope st) f cdv A outer s H E).nox (defBody st) t ∧ t e (start N vs) H) : FnOk P w K mg base CX0 (k + 1) f fd ps sp := by
  obtain ⟨oc, od, kV, doc, pm, an, cdv, ct, osl, rfl, lk, hcd⟩ := F.ex
  refine fn_of lk hcd S len fun A outer s H vs Q E hr hsp => ?_
  obtain ⟨t, h, q⟩ := hbody cdv A outer s H vs { nx := fun _ H' => Q .non H', rt := Q } E id hr hsp
  exact ⟨t, h.nox, q⟩
theorem Fun.binds {x qual : Str} {st : Stmt} {f : Addr} {fd : FuncData} {ps : List Str} (F : Fun K x qual st f fd)
    (h : ∀ (kV doc pm : Value) (an : Option Addr) (cdv ct : Value) (us : List Value), us.length = ps.length → bindArgs (PySem.W.fnOf x qual (defArgs st) (defBody st) (defScope st) .none kV doc pm an cdv ct) ⟨us, []⟩ = pure (ps.zip us)) : Binds K fd ps [] := by
  obtain ⟨oc, od, kV, doc, pm, an, cdv, ct, osl, rfl, lk, hcd⟩ := F.ex
  exact .all (h kV doc pm an cdv ct)
theorem fun_mk {x qual : Str} {st : Stmt} {f : Addr} {oc : Value} {od an : Option Addr} {osl : Array (Option Value)} {kV doc pm cdv ct : Value} (l : K.lookup f = some ⟨oc, od, .func (PySem.W.fnOf x qual (defArgs st) (defBody st) (defScope st) .none kV doc pm an cdv ct), osl⟩)
    (c : PySem.W.codeIn K cdv qual = true) (k : PySem.W.keepIn K (.ref f) = true) : Fun K x qual st f (PySem.W.fnOf x qual (defArgs st) (defBody st) (defScope st) .none kV doc pm an cdv ct) := ⟨⟨oc, od, kV, doc, pm, an, cdv, ct, osl, rfl, l, c⟩, k⟩
end
theorem hu_of {A : Around} {k : Nat} (hr : Room k A) : A.units + 1 < cLine := Nat.lt_of_le_of_lt (Nat.add_le_add_left (by decide : 1 ≤ 64) _) hr.units
theorem small1000 {n : Nat} (h : n ≤ 1000) : n < sizeLine := Nat.lt_of_le_of_lt h (by decide)

section
variable {X : Cx}
theorem pv (i : Nat) {x : Str} {pos : Pos} (hN : X.N[i]? = some x := by rfl) (hv : Vis X.env.scope x := by first | exact Or.inl rfl | exact Or.inr (Or.inl rfl) | exact Or.inr (Or.inr rfl)) (hd : (x == ("__debug__" : Str)) = false := by decide)
    (hcd : (x == ("__classdict__" : Str)) = false := by decide) : PE X (.Name x pos) (tVar i) := pe_var hN hv hd hcd
end

theorem iteF {A B : Prop} (h : B) : if false = true then A else B := by
  rw [if_neg Bool.false_ne_true]
  exact h
theorem iteT {A B : Prop} (h : A) : if true = true then A else B := by
  rw [if_pos rfl]
  exact h
theorem ite2 {c A B : Prop} [Decidable c] (h1 : c → A) (h2 : ¬ c → B) : if c then A else B := by
  by_cases h : c
  · rw [if_pos h]
    exact h1 h
  · rw [if_neg h]
    exact h2 h
def Same (H H' : Hp) : Prop := ∀ b o, H b = some o → H' b = some o
theorem Same.refl (H : Hp) : Same H H := fun _ _ h => h
theorem Same.trans {H H1 H2 : Hp} (a : Same H H1) (b : Same H1 H2) : Same H H2 := fun c o h => b c o (a c o h)
theorem Same.free {H H' : Hp} (e : Same H H') {l : Addr} (h : H' l = Option.none) : H l = Option.none := by
  cases q : H l with
  | none => rfl
  | some o =>
    rw [e l o q] at h
    cases h
theorem Same.seq {K : PySem.W.Frag} {H H' : Hp} {a : Addr} {xs : List V} (e : Same H H') (h : SqL K H a xs) : SqL K H' a xs := by
  rcases h with (h | ⟨o, h⟩) | h
  · exact .inl (.inl (e _ _ h))
  · exact .inl (.inr ⟨o, e _ _ h⟩)
  · exact .inr h

section
variable {κ : Type} [DecidableEq κ]
end
end L2

set_option Elab.async false
set_option linter.all false
set_option maxRecDepth 100000
set_option maxHeartbeats 4000000
namespace L2
open PySem PySem.Spec PyProof.Rows
theorem comp_turns {prog : Program} {w : World} {A : Around} {R : Result → Shared → Prop} {elt tg iter : Expr} {ifs : List Expr} {scope : Scope} {pos : Pos} {it acc : Value} {env : Env} (Iv : Nat → Shared → Prop) 
    (step : ∀ n s, Iv n s → wpAny (model prog w) A (pyNext it) (fun r s1 => match r with
      | none => R (.ok .next) s1
      | some v => wpAny (model prog w) A (letOwnedTupleGo tg it v) (fun _ s2 => wpAny (model prog w) A (assign tg env v) (fun _ s3 =>
          wpAny (model prog w) A (forIn ifs true fun c r => if r = true then do let ok ← isTrue c env (eval c env); pure (ForInStep.yield ok) else pure (ForInStep.yield r)) (fun ok s4 =>
            if ok = true then wpAny (model prog w) A (eval elt env) (fun y s5 => wpAny (model prog w) A (call (.builtin "list.append") [acc, y]) (fun _ s6 => ∃ m, m < n ∧ Iv m s6) (fun _ _ => False) s5) (fun _ _ => False) s4
            else ∃ m, m < n ∧ Iv m s4) (fun _ _ => False) s3) (fun _ _ => False) s2) (fun _ _ => False) s1) (fun _ _ => False) s)
    (n : Nat) {s : Shared} (h : Iv n s) : codeAny (model prog w) A (.compLoop (.ListComp elt [⟨tg, iter, ifs, 0⟩] scope pos) 0 it acc env) R s := by
  have up : ∀ {α : Type} {t : Sem α} {Q : α → Shared → Prop} {E : Value → Shared → Prop} {s : Shared}, wpAny (model prog w) A t Q (fun _ _ => False) s → wpAny (model prog w) A t Q E s :=
    fun h => wpAny_mono h (fun _ _ q => q) fun _ _ z => z.elim
  refine codeAny_loop rfl Iv (fun k s hI => ?_) n h
  show wpAny _ A ((compTurn (.ListComp elt [⟨tg, iter, ifs, 0⟩] scope pos) 0 it acc env).onRaise (fun x => do noteFrame x env; theTreesLotGoes x)) _ _ s
  refine wpAny_noted ?_
  rw [compTurn_list]
  refine wpAny_bind (wpAny_standAt (wpAny_bind (wpAny_mono (up (step k s hI)) (fun r s1 h1 => ?_) fun _ _ z => z)))
  cases r with
  | none => exact wpAny_pure h1
  | some v =>
    refine wpAny_bind (wpAny_mono (up h1) (fun _ s2 h2 => ?_) fun _ _ z => z)
    refine wpAny_bind (wpAny_mono (up h2) (fun _ s3 h3 => ?_) fun _ _ z => z)
    refine wpAny_bind (wpAny_mono (up h3) (fun ok s4 h4 => ?_) fun _ _ z => z)
    cases ok with
    | false => exact wpAny_pure ⟨rfl, h4⟩
    | true =>
      have h4 : wpAny (model prog w) A (eval elt env) (fun y s5 => wpAny (model prog w) A (call (.builtin "list.append") [acc, y]) (fun _ s6 => ∃ m, m < k ∧ Iv m s6) (fun _ _ => False) s5) (fun _ _ => False) s4 := h4
      exact wpAny_bind (wpAny_bind (wpAny_mono (up h4) (fun y s5 h5 => wpAny_bind (wpAny_mono (up h5) (fun _ s6 h6 => wpAny_pure (wpAny_pure ⟨rfl, h6⟩)) fun _ _ z => z)) fun _ _ z => z))

def closL (cells : List (Str × Addr)) : List (Str × NameKind) → List (Str × Addr) → List (Str × Addr)
  | [], acc => acc
  | (n, k) :: r, acc => if k == .free then closL cells r ((n, (cells.lookup n).getD 0) :: acc) else closL cells r acc
theorem closL_lookup {x : Str} : ∀ (names : List (Str × NameKind)) (acc : List (Str × Addr)), (∀ p ∈ names, p.2 = .free → ∃ c, cells.lookup p.1 = some c) →
    (∀ y d, acc.lookup y = some d → cells.lookup y = some d) → (closL cells names acc).lookup x = some c → cells.lookup x = some c
  | [], acc => fun _ h2 h => h2 x c h
  | (n, k) :: r, acc => fun h1 h2 h => by
    unfold closL at h
    by_cases hk : (k == NameKind.free) = true
    · rw [if_pos hk] at h
      have ek : k = .free := by simpa using hk
      obtain ⟨d, hd⟩ := h1 (n, k) List.mem_cons_self ek
      refine closL_lookup r _ (fun p hp => h1 p (List.mem_cons_of_mem _ hp)) (fun y e hy => ?_) h
      rw [List.lookup_cons] at hy
      cases hyn : y == n with
      | true =>
        rw [hyn] at hy
        have : y = n := by simpa using hyn
        subst this
        have hd' : List.lookup y cells = some d := hd
        rw [hd'] at hy ⊢
        exact hy
      | false =>
        rw [hyn] at hy
        exact h2 y e hy
    · rw [if_neg hk] at h
      exact closL_lookup r acc (fun p hp => h1 p (List.mem_cons_of_mem _ hp)) h2 h
theorem closL_has  : ∀ (names : List (Str × NameKind)) (acc : List (Str × Addr)), ((acc.lookup x).isSome = true ∨ (x, NameKind.free) ∈ names) → ((closL cells names acc).lookup x).isSome = true
  | [], acc, h => h.elim (fun z => z) fun z => nomatch z
  | (n, k) :: r, acc, h => by
    unfold closL
    by_cases hk : (k == NameKind.free) = true
    · rw [if_pos hk]
      refine closL_has r _ ?_
      rcases h with h | h
      · refine .inl ?_
        rw [List.lookup_cons]
        cases x == n <;> simp [h]
      · rcases List.mem_cons.mp h with e | e
        · refine .inl ?_
          have : x = n := congrArg Prod.fst e
          subst this
          rw [List.lookup_cons]
          simp
        · exact .inr e
    · rw [if_neg hk]
      refine closL_has r _ ?_
      rcases h with h | h
      · exact .inl h
      · rcases List.mem_cons.mp h with e | e
        · have : NameKind.free = k := congrArg Prod.snd e
          subst this
          exact absurd rfl hk
        · exact .inr e
theorem closureFor_closL (h : ∀ p ∈ scope.names, p.2 = .free → ∃ c, env.cells.lookup p.1 = some c) : closureFor scope env = pure (closL env.cells scope.names []) := by
  have go : ∀ (names : List (Str × NameKind)) (acc : List (Str × Addr)), (∀ p ∈ names, p.2 = .free → ∃ c, env.cells.lookup p.1 = some c) →
      (forIn names acc (fun (x : Str × NameKind) r => if (x.2 == NameKind.free) = true then do let a ← cellOf env x.1; pure (ForInStep.yield ((x.1, a) :: r)) else pure (ForInStep.yield r)) : Sem (List (Str × Addr))) = pure (closL env.cells names acc) := by
    intro names
    induction names with
    | nil => intro acc _; rfl
    | cons p r ih =>
      intro acc h1
      obtain ⟨n, k⟩ := p
      rw [List.forIn_cons]
      unfold closL
      by_cases hk : (k == NameKind.free) = true
      · have ek : k = .free := by simpa using hk
        obtain ⟨c, hc⟩ := h1 (n, k) List.mem_cons_self ek
        have hc : List.lookup n env.cells = some c := hc
        have e : cellOf env n = pure c := by unfold cellOf; rw [hc]
        simp only [hk, if_true, e, hc, Option.getD_some]
        exact ih _ fun p hp => h1 p (List.mem_cons_of_mem _ hp)
      · simp only [hk, if_false]
        exact ih _ fun p hp => h1 p (List.mem_cons_of_mem _ hp)
  unfold closureFor
  exact Eq.trans (congrArg (fun t : Sem (List (Str × Addr)) => t >>= fun cs => pure cs) (go scope.names [] h)) rfl
end L2

namespace L2
open PySem PySem.Spec PyProof.Rows
def relG (env : Env) (n : Str) (k : NameKind) : NameKind := if (k == .free && env.scope.kind == .function && env.kindOf n == some .cell) = true then .cell else k
theorem lookup_kinds {g : Str → NameKind → NameKind} (y : Str) : ∀ names : List (Str × NameKind), (names.map fun p => (p.1, g p.1 p.2)).lookup y = (names.lookup y).map (g y)
  | [] => rfl
  | (n, k) :: r => by
    rw [List.map_cons, List.lookup_cons, List.lookup_cons]
    cases e : y == n with
    | true =>
      have : y = n := by simpa using e
      subst this
      rfl
    | false => exact lookup_kinds y r
theorem relabel_lookup (scope : Scope) (env : Env) (y : Str) : (relabel scope env).names.lookup y = (scope.names.lookup y).map (relG env y) := by
  have e : (relabel scope env).names = scope.names.map fun p => (p.1, relG env p.1 p.2) := by
    unfold relabel
    refine List.map_congr_left fun p _ => ?_
    obtain ⟨n, k⟩ := p
    show (if (k == NameKind.free && env.scope.kind == .function && env.kindOf n == some .cell) = true then (n, NameKind.cell) else (n, k)) = (n, if (k == NameKind.free && env.scope.kind == .function && env.kindOf n == some .cell) = true then NameKind.cell else k)
    by_cases h : (k == NameKind.free && env.scope.kind == .function && env.kindOf n == some .cell) = true
    · rw [if_pos h, if_pos h]
    · rw [if_neg h, if_neg h]
  rw [e]
  exact lookup_kinds y _
def pickS (σ : St) (fs : List Nat) : St := fs.map fun i => (σ[i]?).join
theorem pickS_get {σ : St} {fs : List Nat} {j : Nat} {v : V} (h : (pickS σ fs)[j]? = some (some v)) : ∃ i, fs[j]? = some i ∧ σ[i]? = some (some v) := by
  unfold pickS at h
  rw [List.getElem?_map] at h
  cases e : fs[j]? with
  | none => rw [e] at h; cases h
  | some i =>
    rw [e] at h
    refine ⟨i, rfl, ?_⟩
    have h' : (σ[i]?).join = some v := Option.some.inj h
    cases e2 : σ[i]? with
    | none => rw [e2] at h'; cases h'
    | some o =>
      rw [e2] at h'
      have h' : o = some v := h'
      rw [h']
def kindB : Bool → NameKind
  | true => .cell
  | false => .local
def celB : Bool → Str → List (Str × NameKind)
  | true, x => [(x, .cell)]
  | false, _ => []
def exB : Bool → Str → Addr → List (Str × Addr)
  | true, x, C => [(x, C + 1)]
  | false, _, _ => []
theorem cells_none : ∀ (names : List (Str × NameKind)) (n : Nat) (acc : List (Str × Addr)) (h : Heap), names.filter (fun p => p.2 == .cell) = [] → cellsFrom n names acc = acc ∧ pushCells h names = h
  | [], _, _, _, _ => ⟨rfl, rfl⟩
  | (y, k) :: r, n, acc, h, e => by
    rw [List.filter_cons] at e
    cases hk : k == NameKind.cell with
    | true => rw [hk] at e; simp at e
    | false =>
      rw [hk] at e
      unfold cellsFrom pushCells
      rw [hk]
      exact cells_none r n acc h (by simpa using e)
theorem cells_one  : ∀ (names : List (Str × NameKind)) (n : Nat) (acc : List (Str × Addr)) (h : Heap), names.filter (fun p => p.2 == .cell) = [(x, .cell)] → cellsFrom n names acc = (x, n) :: acc ∧ pushCells h names = h.push { cls := .type "cell", data := .cell none }
  | [], _, _, _, e => by simp at e
  | (y, k) :: r, n, acc, h, e => by
    rw [List.filter_cons] at e
    cases hk : k == NameKind.cell with
    | true =>
      rw [hk] at e
      simp only [if_true, List.cons.injEq, Prod.mk.injEq] at e
      unfold cellsFrom pushCells
      rw [hk]
      simp only [if_true]
      obtain ⟨e1, e2⟩ := cells_none r (n + 1) ((y, n) :: acc) (h.push { cls := .type "cell", data := .cell none }) e.2
      rw [e1, e2, e.1.1]
      exact ⟨rfl, rfl⟩
    | false =>
      rw [hk] at e
      unfold cellsFrom pushCells
      rw [hk]
      exact cells_one r n acc h (by simpa using e)
theorem wpAny_blockEnv {M : Model} {A : Around} {E : Value → Shared → Prop} {s : Shared} {globals : Addr} {cl : List (Str × Addr)} {qual : Str} {outer : Env} {Q : Env → Shared → Prop} (hc : scope.names.filter (fun p => p.2 == .cell) = celB b x) 
    (hQ : ∀ h' : Heap, h'.Ns s.heap.objs.size (fun _ => none) → (∀ a o, s.heap.get? a = some o → h'.get? a = some o) → (b = true → h'.IsCell (s.heap.objs.size + 1) none) →
      Q { scope, locals := s.heap.objs.size, globals, cells := exB b x s.heap.objs.size ++ cl, qual, func := none, code := outer.code, frame := outer.frame, builtins := outer.builtins } { s with heap := h' }) :
    wpAny M A (newFunctionEnv scope globals cl [] qual none .none (some outer)) Q E s := by
  simp only [newFunctionEnv, Option.isSome_some, if_true]
  refine wpAny_bind (wpAny_alloc ?_)
  refine wpAny_bind (wpAny_layCells _ (fun name kind cells => by cases hkc : kind == NameKind.cell <;> simp [hkc]) _ _ _ _ ?_)
  rw [List.forIn_nil]
  refine wpAny_bind (wpAny_pure (wpAny_pure ?_))
  have sz : (s.heap.push { cls := .type "dict", data := .dict #[] }).objs.size = s.heap.objs.size + 1 := Heap.size_push ..
  cases b with
  | false =>
    obtain ⟨e1, e2⟩ := cells_none scope.names (s.heap.push { cls := .type "dict", data := .dict #[] }).objs.size cl (s.heap.push { cls := .type "dict", data := .dict #[] }) hc
    show Q { scope := _, locals := _, globals := _, cells := cellsFrom (s.heap.push { cls := .type "dict", data := .dict #[] }).objs.size scope.names cl, qual := _, func := _, code := _, frame := _, builtins := _ } { s with heap := pushCells (s.heap.push { cls := .type "dict", data := .dict #[] }) scope.names }
    rw [e1, e2]
    exact hQ _ (Heap.Ns.new s.heap (.type "dict")) (fun a o e => Heap.get?_push_of_some _ e) (fun z => nomatch z)
  | true =>
    obtain ⟨e1, e2⟩ := cells_one scope.names (s.heap.push { cls := .type "dict", data := .dict #[] }).objs.size cl (s.heap.push { cls := .type "dict", data := .dict #[] }) hc
    show Q { scope := _, locals := _, globals := _, cells := cellsFrom (s.heap.push { cls := .type "dict", data := .dict #[] }).objs.size scope.names cl, qual := _, func := _, code := _, frame := _, builtins := _ } { s with heap := pushCells (s.heap.push { cls := .type "dict", data := .dict #[] }) scope.names }
    rw [e1, e2, sz]
    exact hQ _ ((Heap.Ns.new s.heap (.type "dict")).push _) (fun a o e => Heap.get?_push_of_some _ (Heap.get?_push_of_some _ e)) (fun _ => ⟨_, by rw [← sz]; exact Heap.get?_push_size _ rfl, rfl⟩)
structure CompOk (X : Cx) (scope : Scope) (x : Str) (fv : List Str) (fs : List Nat) (b : Bool := false) : Prop where
  kind : scope.kind = .function
  cel : scope.names.filter (fun p => p.2 == .cell) = celB b x
  names : ∀ p ∈ scope.names, p.2 = .local → scope.names.lookup p.1 = some .local
  tg : scope.names.lookup x = some (kindB b)
  free : ∀ p ∈ scope.names, p.2 = .free → X.env.scope.names.lookup p.1 = some .cell
  nd : (x :: fv).Nodup
  fvs : ∀ (j : Nat) y, fv[j]? = some y → ∃ i, fs[j]? = some i ∧ X.N[i]? = some y ∧ scope.names.lookup y = some .free
  len : fv.length = fs.length
def compChk (sc : Scope) (N : List Str) (scope : Scope) (x : Str) (fv : List Str) (fs : List Nat) (b : Bool := false) : Bool :=
  scope.kind == .function && scope.names.filter (fun p => p.2 == .cell) == celB b x && (scope.names.all fun p => p.2 != .local || scope.names.lookup p.1 == some .local) && scope.names.lookup x == some (kindB b) &&
  (scope.names.all fun p => p.2 != .free || sc.names.lookup p.1 == some .cell) && decide (x :: fv).Nodup && fs.map (N[·]?) == fv.map some && (fv.all fun y => scope.names.lookup y == some .free)
theorem CompOk.of (h : compChk X.env.scope X.N scope x fv fs b = true) : CompOk X scope x fv fs b := by
  unfold compChk at h
  simp only [Bool.and_eq_true, List.all_eq_true, Bool.or_eq_true, bne_iff_ne, beq_iff_eq, decide_eq_true_eq] at h
  obtain ⟨⟨⟨⟨⟨⟨⟨h1, h2⟩, h3⟩, h4⟩, h5⟩, h6⟩, h7⟩, h8⟩ := h
  have hlen : fs.length = fv.length := by
    have := congrArg List.length h7
    simpa using this
  refine ⟨h1, h2, fun p hp hk => (h3 p hp).resolve_left fun z => z hk, h4, fun p hp hk => (h5 p hp).resolve_left fun z => z hk, h6, fun j y e => ?_, hlen.symm⟩
  have hj : j < fv.length := (List.getElem?_eq_some_iff.mp e).1
  have e7 := congrArg (fun l => l[j]?) h7
  simp only [List.getElem?_map, e] at e7
  have hj' : j < fs.length := by lia
  rw [List.getElem?_eq_getElem hj'] at e7
  refine ⟨fs[j], List.getElem?_eq_getElem hj', ?_, h8 y (List.mem_of_getElem? e)⟩
  simpa using e7
abbrev compXE (X : Cx) (ex : List (Str × Addr)) (N' : List Str) (scope : Scope) (C : Addr) (s0 : Shared) (H0 : Hp) (fp : List Addr) : Cx where
  prog := X.prog
  w := X.w
  K := X.K
  mg := X.mg
  base := X.base
  A := X.A
  N := N'
  s₀ := s0
  H₀ := H0
  env := compEnvC scope (ex ++ closL X.env.cells scope.names []) C X.env
  outer := X.stack
  stack := X.stack
  ex := fp
  fn := fun y => (ex.lookup y).isSome
  calm := X.calm
  pn := []
  xe := fun _ _ => False
abbrev compX (X : Cx) (N' : List Str) (scope : Scope) (C : Addr) (s0 : Shared) (H0 : Hp) (fp : List Addr) : Cx := compXE X [] N' scope C s0 H0 fp
section
variable {X : Cx} {pins : List (Addr × Obj)} {σ : St} {H H' : Hp} {s s' : Shared} {scope : Scope} {x : Str} {fv : List Str} {fs : List Nat} {fp : List Addr} {b : Bool}
theorem CompOk.cells (ok : CompOk X scope x fv fs b) (I : Inv X pins σ H s) : ∀ p ∈ scope.names, p.2 = .free → ∃ c, X.env.cells.lookup p.1 = some c := fun p hp hk => I.ok.has p.1 (.inl (ok.free p hp hk))
theorem CompOk.look (ok : CompOk X scope x fv fs b) (I : Inv X pins σ H s) (h : (closL X.env.cells scope.names []).lookup y = some c) : X.env.cells.lookup y = some c :=
  closL_lookup scope.names [] (ok.cells I) (fun _ _ z => by cases z) h
theorem exB_look (h : (exB b x C).lookup y = some c) : b = true ∧ y = x ∧ c = C + 1 := by
  cases b with
  | false => cases h
  | true =>
    have h : (List.lookup y [(x, C + 1)]) = some c := h
    rw [List.lookup_cons] at h
    cases e : y == x with
    | true => rw [e] at h; cases h; exact ⟨rfl, eq_of_beq e, rfl⟩
    | false => rw [e] at h; cases h
theorem comp_enter (ok : CompOk X scope x fv fs b) (I : Inv X pins σ H s) (hf : ∀ b ∈ fp, FpOk X pins H b) (hfo : ∀ b ∈ fp, ∃ o, s.heap.get? b = some o) {h1 : Heap} {m : Str → Option Value} {tk : Nat} (hn : h1.Ns s.heap.objs.size m)
    (kept : ∀ b o, s.heap.get? b = some o → h1.get? b = some o) (hcel : b = true → h1.IsCell (s.heap.objs.size + 1) none) : Inv (compXE X (exB b x s.heap.objs.size) (x :: fv) scope s.heap.objs.size s H fp) [] (none :: pickS σ fs) H { s with heap := h1, toks := tk } := by
  have cl : ∀ {y c}, (exB b x s.heap.objs.size ++ closL X.env.cells scope.names []).lookup y = some c → X.env.cells.lookup y = some c ∨ (b = true ∧ y = x ∧ c = s.heap.objs.size + 1) := fun {y c} h => by
    rw [List.lookup_append] at h
    cases e : (exB b x s.heap.objs.size).lookup y with
    | some d => rw [e] at h; cases h; exact .inr (exB_look e)
    | none => rw [e] at h; exact .inl (ok.look I (by simpa using h))
  have lt : ∀ {y c}, X.env.cells.lookup y = some c → c < s.heap.objs.size := fun h => by obtain ⟨_, o, ho, _⟩ := I.cell _ _ h; exact Heap.lt_size ho
  have hkk : X.env.scope.kind = .function := I.ok.kind
  refine ⟨⟨I.ok.mod, ok.kind, I.ok.glob, I.ok.blt, Nat.le_refl _, fun y z c h1 h2 => ?_, fun y hy => ?_, fun y c hfn h => ?_, I.ok.hd, I.ok.frames, .inl rfl, fun b hb => ⟨?_, fun y c e z => ?_⟩, I.bs,
    Nat.le_trans I.ok.bsz I.sz, fun b o e hb => ?_, fun b hb hbf => ?_, I.stack, I.stkFree⟩, rfl, I.bare, Un.kept kept, ⟨m, hn, fun i y v e1 e2 e3 => ?_⟩, fun y c e => ?_, I.fresh, fun y c e => ?_, fun p hp => absurd (show p ∈ ([] : List (Addr × Obj)) from hp) (by simp), I.hok.kept kept, ?_⟩
  · rcases cl h1 with a | ⟨_, a1, a2⟩ <;> rcases cl h2 with d | ⟨_, d1, d2⟩
    · exact I.ok.inj y z c a d
    · have := lt a; lia
    · have := lt d; lia
    · rw [a1, d1]
  · have hy : (relabel scope X.env).names.lookup y = some .cell ∨ (relabel scope X.env).names.lookup y = some .free := hy
    rw [relabel_lookup] at hy
    cases e : scope.names.lookup y with
    | none => rw [e] at hy; rcases hy with z | z <;> cases z
    | some k =>
      show ∃ c, (exB b x s.heap.objs.size ++ closL X.env.cells scope.names []).lookup y = some c
      rw [List.lookup_append]
      rw [e] at hy
      have hy : relG X.env y k = .cell ∨ relG X.env y k = .free := hy.elim (fun z => .inl (Option.some.inj z)) fun z => .inr (Option.some.inj z)
      by_cases hk : k = .free
      · subst hk
        have := closL_has (cells := X.env.cells) scope.names [] (.inr (PySem.mem_of_lookup e))
        obtain ⟨c, hc⟩ := Option.isSome_iff_exists.mp this
        rw [hc]
        cases (exB b x s.heap.objs.size).lookup y <;> exact ⟨_, rfl⟩
      · have e2 : relG X.env y k = k := by
          unfold relG
          have : (k == NameKind.free) = false := by simpa using hk
          rw [this]
          rfl
        rw [e2] at hy
        rcases hy with z | z
        · subst z
          have mf : (y, NameKind.cell) ∈ scope.names.filter (fun p => p.2 == .cell) := List.mem_filter.mpr ⟨PySem.mem_of_lookup e, rfl⟩
          rw [ok.cel] at mf
          cases b with
          | false => cases mf
          | true =>
            have : y = x := congrArg Prod.fst (List.mem_singleton.mp mf)
            subst this
            exact ⟨s.heap.objs.size + 1, by show (List.lookup y [(y, s.heap.objs.size + 1)]).or _ = _; rw [List.lookup_cons]; simp⟩
        · exact absurd z hk
  · have hfn : ((exB b x s.heap.objs.size).lookup y).isSome = true := hfn
    obtain ⟨d, hd⟩ := Option.isSome_iff_exists.mp hfn
    have h : (exB b x s.heap.objs.size ++ closL X.env.cells scope.names []).lookup y = some c := h
    rw [List.lookup_append, hd] at h
    cases h
    obtain ⟨_, _, rfl⟩ := exB_look hd
    exact Nat.le_succ _
  · obtain ⟨o, ho⟩ := hfo b hb
    exact Nat.ne_of_lt (Heap.lt_size ho)
  · rcases cl e with a | ⟨_, _, a2⟩
    · exact (hf b hb).2.2.2.2.1 y c a z
    · obtain ⟨o, ho⟩ := hfo b hb
      have := Heap.lt_size ho
      lia
  · rcases (hf b hb).2.2.2.1 with z | z
    · exact I.ok.noex b o e z
    · exact absurd (Nat.lt_of_lt_of_le (Heap.lt_size e) (Nat.le_trans I.ok.bsz z)) (Nat.lt_irrefl _)
  · rcases List.mem_cons.mp (I.stkSub b hbf) with z | z
    · exact (hf b hb).2.1 z
    · exact (hf b hb).2.2.1 z
  · cases i with
    | zero =>
      have e2 : (some none : Option (Option V)) = some (some v) := e2
      cases e2
    | succ j =>
      have e1 : fv[j]? = some y := e1
      have e2 : (pickS σ fs)[j]? = some (some v) := e2
      obtain ⟨i, g1, g2⟩ := pickS_get e2
      obtain ⟨i', g3, g4, g5⟩ := ok.fvs j y e1
      rw [g1] at g3
      cases g3
      have gk : X.env.scope.names.lookup y = some .cell := ok.free (y, .free) (PySem.mem_of_lookup g5) rfl
      obtain ⟨m0, _, hl0⟩ := I.loc
      obtain ⟨u, r, l⟩ := hl0 i y v g4 g2 (.inr (.inl gk))
      refine ⟨u, r, ?_⟩
      rcases l with ⟨k, _⟩ | ⟨_, c, e, o, ho, hd⟩
      · have k : X.env.scope.names.lookup y = some .local := k
        rw [gk] at k
        cases k
      · obtain ⟨c', hc'⟩ := Option.isSome_iff_exists.mp (closL_has (cells := X.env.cells) scope.names [] (.inr (PySem.mem_of_lookup g5)))
        have := ok.look I hc'
        rw [e] at this
        cases this
        have ny : (exB b x s.heap.objs.size).lookup y = none := by
          cases ey : (exB b x s.heap.objs.size).lookup y with
          | none => rfl
          | some d =>
            obtain ⟨_, z, _⟩ := exB_look ey
            exact absurd (show x ∈ fv from z ▸ List.mem_of_getElem? (l := fv) (show fv[j]? = some y from e1)) (List.nodup_cons.mp ok.nd).1
        refine .inr ⟨.inl ?_, c, by show (exB b x s.heap.objs.size ++ closL X.env.cells scope.names []).lookup y = some c; rw [List.lookup_append, ny]; exact hc', o, kept _ _ ho, hd⟩
        show (relabel scope X.env).names.lookup y = some .cell
        rw [relabel_lookup, g5]
        show some (relG X.env y .free) = _
        have gk' : X.env.kindOf y = some .cell := gk
        unfold relG
        rw [hkk, gk']
        rfl
  · rcases cl e with a | ⟨hb, _, rfl⟩
    · obtain ⟨v, o, ho, hd⟩ := I.cell y c a
      exact ⟨v, o, kept _ _ ho, hd⟩
    · exact ⟨none, hcel hb⟩
  · rcases cl e with a | ⟨_, _, rfl⟩
    · exact I.freeC y c a
    · exact I.hok.fresh (Nat.le_succ _)
  · show (none :: pickS σ fs).length = (x :: fv).length
    simp [pickS, ok.len]
theorem comp_leave (I : Inv X pins σ H s) (hf : ∀ b ∈ fp, FpOk X pins H b) (I' : Inv (compXE X ex N' scope C s H fp) [] σ' H' s') : Inv X pins σ H' s' :=
  I.call' (ch := fp) I'.os I'.base I'.hok I'.bare fun b hb => ⟨(hf b hb).2.2.2.1, (hf b hb).2.1, (hf b hb).2.2.2.2.1, (hf b hb).2.2.2.2.2⟩
theorem Inv.off (I : Inv X pins σ H s) (f : FpOk X pins H C) (hs : Heap.SameBut C s.heap h') : Inv X pins σ H { s with heap := h' } :=
  I.turned (t' := s.toks) (fun b o hb e => hs.extBut b o hb e) f.1 (fun z => f.2.1 z) f.2.2.2.1 f.2.2.2.2.1 f.2.2.2.2.2
end

def PTs (X : Cx) (ifs : List Expr) (t : TT) : Prop :=
  ∀ (pins : List (Addr × Obj)) (s : Shared) (σ : St) (H : Hp) (Q : Bool → Hp → Prop), Inv X pins σ H s → t σ H Q →
    wpAny (model X.prog X.w) X.A (forIn ifs true fun c r => if r = true then do let ok ← isTrue c X.env (eval c X.env); pure (ForInStep.yield ok) else pure (ForInStep.yield r)) (TP X pins σ Q) X.xe s
def tYes : TT := fun _ H Q => Q true H
theorem pts_nil  : PTs X [] tYes := fun _ _ _ H _ I h => wpAny_tests_nil ⟨H, I, h⟩
def CompRd (J : It) (tc : TT) (te : TE) (fs : List Nat) (σ : St) (H : Hp) (Q : VK) : Prop := ∀ D, H D = none → ∃ W : Nat → Nat → Hp → Prop, (∃ m, W 0 m (upd H D (.lst []))) ∧ ∀ i m H2, W i m H2 →
  (J.stop i H2 ∧ Q (.ref D) H2) ∨ (J.go i H2 ∧ ∀ v H3, J.yld i H2 v H3 → tc (some v :: pickS σ fs) H3 fun ok H4 =>
    if ok = true then te (some v :: pickS σ fs) H4 fun y H5 => ∃ ys, H5 D = some (.lst ys) ∧ ys.length < sizeLine ∧ ∃ m', m' < m ∧ W (i + 1) m' (upd H5 D (.lst (ys ++ [y]))) else ∃ m', m' < m ∧ W (i + 1) m' H4)
def tComp (wi : TI) (tc : TT) (te : TE) (fs : List Nat) : TE := fun σ H Q => wi σ H fun J H1 => CompRd J tc te fs σ H1 Q
section
variable {X : Cx} {elt iter : Expr} {x : Str} {px pos : Pos} {ifs : List Expr} {scope : Scope} {fv : List Str} {fs : List Nat} {wi : TI} {te : TE} {tc : TT}
theorem comp_run (hc : X.calm = true) (ok : CompOk X scope x fv fs b) (hts : ∀ C s0 H0 fp, PTs (compXE X (exB b x C) (x :: fv) scope C s0 H0 fp) ifs tc) (he : ∀ C s0 H0 fp, PE (compXE X (exB b x C) (x :: fv) scope C s0 H0 fp) elt te) 
    {pins : List (Addr × Obj)} {σ : St} {H : Hp} {s : Shared} {E : Value → Shared → Prop} {it : Addr} {fp : List Addr} {tn : Nat → Heap → Prop} {J : It} {Q : VK} (I : Inv X pins σ H s) (T : Turn X.prog X.w X.K (.Name x px) J fp it tn) (st : tn 0 s.heap)
    (hf : ∀ b ∈ fp, FpOk X pins H b)
    (rd : CompRd J tc te fs σ H Q)
    {RR : Value → Addr → Result → Shared → Prop}
    (hRR : ∀ D C s' H', Inv X pins σ H' s' → FpOk X pins H' C → (∃ m, s'.heap.Ns C m) → Q (.ref D) H' → RR (.ref D) C (.ok .next) s') :
    wpAny (model X.prog X.w) X.A (newList []) (fun acc s3 => wpAny (model X.prog X.w) X.A (newFunctionEnv scope X.env.globals (closL X.env.cells scope.names []) [] X.env.qual none .none (some X.env)) (fun cenv s4 =>
      codeAny (model X.prog X.w) X.A (.compStart (.ListComp elt [⟨.Name x px, iter, ifs, 0⟩] scope pos) 0 (.ref it) acc { cenv with scope := relabel scope X.env }) (RR acc cenv.locals) s4) E s3) E s := by
  obtain ⟨W, ⟨m0, w0⟩, turn⟩ := rd s.heap.objs.size I.fresh
  have I3 : Inv X pins σ (upd H s.heap.objs.size (.lst [])) { s with heap := s.heap.push { cls := .type "list", dict := none, data := .seq ([] : List Value).toArray } } := I.lnew (its := []) (ys := []) (t' := s.toks) .nil (Nat.zero_le _)
  refine wpAny_newObj_type ?_
  show wpAny _ _ _ _ _ ({ s with heap := s.heap.push { cls := .type "list", dict := none, data := .seq ([] : List Value).toArray } } : Shared)
  generalize hs3 : ({ s with heap := s.heap.push { cls := .type "list", dict := none, data := .seq ([] : List Value).toArray } } : Shared) = s3 at I3 ⊢
  refine wpAny_blockEnv ok.cel fun h1 hns kept hcel => ?_
  have eh : s3.heap = s.heap.push { cls := .type "list", dict := none, data := .seq ([] : List Value).toArray } := by rw [← hs3]
  have up3 : ∀ b o, s.heap.get? b = some o → s3.heap.get? b = some o := fun b o e => by rw [eh]; exact Heap.get?_push_of_some _ e
  have hfo : ∀ b ∈ fp, ∃ o, s3.heap.get? b = some o := fun b hb => let ⟨o, ho, _⟩ := T.obj 0 _ st b hb; ⟨o, up3 b o ho⟩
  have neD : ∀ b ∈ fp, b ≠ s.heap.objs.size := fun b hb => let ⟨o, ho, _⟩ := T.obj 0 _ st b hb; Nat.ne_of_lt (Heap.lt_size ho)
  have hf3 : ∀ b ∈ fp, FpOk X pins (upd H s.heap.objs.size (.lst [])) b := fun b hb => ⟨by rw [upd_ne (neD b hb)]; exact (hf b hb).1, (hf b hb).2⟩
  have I4 := comp_enter (tk := s3.toks) ok I3 hf3 hfo hns kept hcel
  have st4 : tn 0 h1 := T.keep 0 _ _ st fun b hb o e => kept b o (up3 b o e)
  have stat : ∀ {H' : Hp}, (∀ b ∈ fp, H' b = none) → ∀ a ∈ fp, FpOk (compXE X (exB b x s3.heap.objs.size) (x :: fv) scope s3.heap.objs.size s3 (upd H s.heap.objs.size (.lst [])) fp) [] H' a := fun hn b hb =>
    ⟨hn b hb, (I4.ok.exf b hb).1, I4.ok.exfs b hb, .inl hb, (I4.ok.exf b hb).2, fun p hp => absurd hp (by simp)⟩
  have hg : PG (compXE X (exB b x s3.heap.objs.size) (x :: fv) scope s3.heap.objs.size s3 (upd H s.heap.objs.size (.lst [])) fp) (.Name x px) (gName 0) := by
    have tg := ok.tg
    cases b with
    | false => exact pg_name ok.nd rfl (.inl (lookup_relabel_local tg)) (.inr (lookup_relabel_local tg))
    | true => exact pg_name ok.nd rfl (.inr (show (relabel scope X.env).names.lookup x = _ from by rw [relabel_lookup, tg]; rfl)) (.inl (show (List.lookup x [(x, s3.heap.objs.size + 1)]).isSome = true from by rw [List.lookup_cons]; simp))
  have loop : codeAny (model X.prog X.w) X.A (.compLoop (.ListComp elt [⟨.Name x px, iter, ifs, 0⟩] scope pos) 0 (.ref it) (.ref s.heap.objs.size) (compEnvC scope (exB b x s3.heap.objs.size ++ closL X.env.cells scope.names []) s3.heap.objs.size X.env)) (RR (.ref s.heap.objs.size) s3.heap.objs.size)
      { s3 with heap := h1 } := by
    refine comp_turns (fun n s' => ∃ i o H', Inv (compXE X (exB b x s3.heap.objs.size) (x :: fv) scope s3.heap.objs.size s3 (upd H s.heap.objs.size (.lst [])) fp) [] (o :: pickS σ fs) H' s' ∧ tn i s'.heap ∧ (∀ b ∈ fp, H' b = none) ∧ W i n H') ?_ m0
      ⟨0, none, _, I4, st4, fun b hb => (hf3 b hb).1, w0⟩
    rintro n s5 ⟨i, o, H5, I5, st5, fr5, w5⟩
    rcases turn i n H5 w5 with ⟨stop, q⟩ | ⟨go, step⟩
    · refine thn (T.done (compXE X (exB b x s3.heap.objs.size) (x :: fv) scope s3.heap.objs.size s3 (upd H s.heap.objs.size (.lst [])) fp) rfl rfl rfl hc i [] s5 _ H5 _ I5 (stat fr5) st5 stop) fun r s6 ⟨hr, I6⟩ => ?_
      subst hr
      obtain ⟨m, hm, _⟩ := I6.loc
      exact hRR _ _ s6 H5 (comp_leave I3 hf3 I6) (I3.fpOk (Nat.le_refl _) I6.free) ⟨m, hm⟩ q
    · refine thn (T.item (compXE X (exB b x s3.heap.objs.size) (x :: fv) scope s3.heap.objs.size s3 (upd H s.heap.objs.size (.lst [])) fp) rfl rfl rfl hc i [] s5 _ H5 _ I5 (stat fr5) st5 go) fun r s6 ⟨u, hr, h6⟩ => ?_
      subst hr
      refine thn h6 fun _ s7 ⟨v, H7, I7, r7, y7, st7, fr7⟩ => ?_
      have I7' := I7.pinned (stat fr7) (T.obj _ _ st7)
      have back : ∀ {σ9 : St} {H9 : Hp} {s9 : Shared}, Inv (compXE X (exB b x s3.heap.objs.size) (x :: fv) scope s3.heap.objs.size s3 (upd H s.heap.objs.size (.lst [])) fp) ([] ++ pinsAt fp s7.heap) σ9 H9 s9 → tn (i + 1) s9.heap ∧ ∀ b ∈ fp, H9 b = none := fun {σ9 H9 s9} I9 =>
        ⟨T.keep _ _ _ st7 fun b hb o e => (I9.pin (b, o) (mem_pinsAt hb e)).1, fun b hb => by
          obtain ⟨o, e, _⟩ := T.obj _ _ st7 b hb
          exact (I9.pin (b, o) (mem_pinsAt hb e)).2.1⟩
      refine thn (hg _ s7 _ H7 v u (fun σ2 H2 => σ2 = some v :: pickS σ fs ∧ H2 = H7) I7' r7 ⟨rfl, rfl⟩) fun _ s8 ⟨σ8, H8, I8, e8, e8'⟩ => ?_
      subst e8 e8'
      refine thn (hts _ _ _ _ _ s8 _ H8 _ I8 (step v H8 y7)) fun ok s9 ⟨H9, I9, q9⟩ => ?_
      cases ok with
      | false =>
        obtain ⟨m', hm', w9⟩ := q9
        obtain ⟨b1, b2⟩ := back I9
        exact ⟨m', hm', i + 1, some v, H9, I9.unpinned, b1, b2, w9⟩
      | true =>
        refine thn (he _ _ _ _ _ s9 _ H9 _ I9 q9) fun y s10 ⟨yv, H10, I10, r10, ys, hD, hz, m', hm', w10⟩ => ?_
        refine thn (mt_append _ s10 _ H10 (.ref s.heap.objs.size) [yv] (.ref s.heap.objs.size) [y] (fun _ H' => H' = upd H10 s.heap.objs.size (.lst (ys ++ [yv]))) I10 rfl (.cons r10 .nil) ⟨_, ys, yv, rfl, rfl, hD, hz, rfl⟩) fun _ s11 ⟨_, H11, I11, _, e11⟩ => ?_
        subst e11
        obtain ⟨b1, b2⟩ := back I11
        exact ⟨m', hm', i + 1, some v, _, I11.unpinned, b1, b2, w10⟩
  exact codeAny_compStart_list loop (T.self _ 0 _ _ _ st4 loop)
theorem pe_compB (b : Bool) (hc : X.calm = true) (ok : CompOk X scope x fv fs b) (hi : PI X (.Name x px) iter wi) (hts : ∀ C s0 H0 fp, PTs (compXE X (exB b x C) (x :: fv) scope C s0 H0 fp) ifs tc) (he : ∀ C s0 H0 fp, PE (compXE X (exB b x C) (x :: fv) scope C s0 H0 fp) elt te) 
    (hs : ∀ x, foldedSetIterable iter X.env x = pure x := by intro _; rfl) : PE X (.ListComp elt [⟨.Name x px, iter, ifs, 0⟩] scope pos) (tComp wi tc te fs) := by
  intro pins s σ H Q I h
  rw [eval_ListComp]
  refine wpAny_comprehension_free (use := none) rfl hs (closureFor_closL (ok.cells I)) ok.kind ok.names (thn (hi pins s σ H _ I h) fun xv s1 h1 => thn h1 fun itv s2 h2 => ?_)
  obtain ⟨it, fp, tn, J, H2, rfl, I2, T, st2, f2, rd⟩ := h2
  exact comp_run hc ok hts he I2 T st2 f2 rd fun D C s' H' I' fC ⟨m, hm⟩ q => ⟨m, hm, fun h' hs' => ⟨.ref D, H', I'.off fC hs', rfl, q⟩⟩
theorem pe_comp (hc : X.calm = true) (ok : CompOk X scope x fv fs) (hi : PI X (.Name x px) iter wi) (hts : ∀ C s0 H0 fp, PTs (compX X (x :: fv) scope C s0 H0 fp) ifs tc) (he : ∀ C s0 H0 fp, PE (compX X (x :: fv) scope C s0 H0 fp) elt te) 
    (hs : ∀ x, foldedSetIterable iter X.env x = pure x := by intro _; rfl) : PE X (.ListComp elt [⟨.Name x px, iter, ifs, 0⟩] scope pos) (tComp wi tc te fs) := pe_compB false hc ok hi hts he hs
theorem ps_setCompB (b : Bool) {py spos : Pos} (hc : X.calm = true) (ok : CompOk X scope x fv fs b) (hN : X.N.Nodup) (hiy : X.N[i]? = some y) (hy : Loc X.env.scope y) (hi : PI X (.Name x px) iter wi) (hts : ∀ C s0 H0 fp, PTs (compXE X (exB b x C) (x :: fv) scope C s0 H0 fp) ifs tc) 
    (he : ∀ C s0 H0 fp, PE (compXE X (exB b x C) (x :: fv) scope C s0 H0 fp) elt te) (hsw : swapsWith (.ListComp elt [⟨.Name x px, iter, ifs, 0⟩] scope pos) (some (.Name y py)) spos.line X.env = pure true := by rfl)
    (hfn : X.fn y = true ∨ X.env.scope.names.lookup y = some .local := by first | exact .inl rfl | exact .inr rfl | assumption)
    (hs : ∀ x, foldedSetIterable iter X.env x = pure x := by intro _; rfl) : PS X (.Assign [.Name y py] (.ListComp elt [⟨.Name x px, iter, ifs, 0⟩] scope pos) spos) (fun D σ H => tComp wi tc te fs σ H fun v H' => D.nx (σ.set i (some v)) H') := by
  intro pins s σ H D I h
  rw [exec_Assign_Name_used _ _ _ _ hsw]
  refine wpAny_bind (wpAny_standAt (wpAny_bind ?_))
  show wpAny _ X.A (comprehension (.ListComp elt [⟨.Name x px, iter, ifs, 0⟩] scope pos) scope X.env _ (newList []) false (eval iter X.env) (some (assign (.Name y py) X.env)) >>= fun _ => pure ()) _ _ s
  refine wpAny_bind (thn (wpAny_comprehension_free (use := some (assign (.Name y py) X.env)) (Q := fun _ s' => SP X pins D .next s') rfl hs (closureFor_closL (ok.cells I)) ok.kind ok.names
    (thn (hi pins s σ H _ I h) fun xv s1 h1 => thn h1 fun itv s2 h2 => ?_)) fun _ s' hq => wpAny_pure (wpAny_pure hq))
  obtain ⟨it, fp, tn, J, H2, rfl, I2, T, st2, f2, rd⟩ := h2
  refine comp_run (Q := fun v H' => D.nx (σ.set i (some v)) H') hc ok hts he I2 T st2 f2 rd fun D' C s' H' I' fC ⟨m, hm⟩ q => ?_
  show wpAny _ X.A (assign (.Name y py) X.env (.ref D')) _ _ s'
  refine wpAny_assign_Name (store_ok2 I' hN hiy hy (v := .ref D') rfl (fun s'' I'' ⟨a, hsa, ha⟩ => ?_) hfn)
  have hCa : C ≠ a := by
    rcases ha with z | z
    · rw [z]; exact fC.2.1
    · exact fun e => fC.2.2.2.2.1 y a z e.symm
  exact ⟨m, hm.sameBut hsa hCa, fun h' hs' => ⟨_, H', I''.off fC hs', q⟩⟩
theorem ps_setComp {py spos : Pos} (hc : X.calm = true) (ok : CompOk X scope x fv fs) (hN : X.N.Nodup) (hiy : X.N[i]? = some y) (hy : Loc X.env.scope y) (hi : PI X (.Name x px) iter wi) (hts : ∀ C s0 H0 fp, PTs (compX X (x :: fv) scope C s0 H0 fp) ifs tc) 
    (he : ∀ C s0 H0 fp, PE (compX X (x :: fv) scope C s0 H0 fp) elt te) (hsw : swapsWith (.ListComp elt [⟨.Name x px, iter, ifs, 0⟩] scope pos) (some (.Name y py)) spos.line X.env = pure true := by rfl)
    (hfn : X.fn y = true ∨ X.env.scope.names.lookup y = some .local := by first | exact .inl rfl | exact .inr rfl | assumption)
    (hs : ∀ x, foldedSetIterable iter X.env x = pure x := by intro _; rfl) : PS X (.Assign [.Name y py] (.ListComp elt [⟨.Name x px, iter, ifs, 0⟩] scope pos) spos) (fun D σ H => tComp wi tc te fs σ H fun v H' => D.nx (σ.set i (some v)) H') := ps_setCompB false hc ok hN hiy hy hi hts he hsw hfn hs
end

theorem comp_pure {J : It} {tc : TT} {te : TE} {fs : List Nat} {σ : St} {H : Hp} {Q : VK} (item g : Nat → V) (p : Nat → Bool) (hn : n ≤ sizeLine) 
    (hgo : ∀ i D ys, i < n → H D = none → J.go i (upd H D (.lst ys)))
    (hy : ∀ i D ys v H', i < n → H D = none → J.yld i (upd H D (.lst ys)) v H' → v = item i ∧ H' = upd H D (.lst ys))
    (hst : ∀ D ys, H D = none → J.stop n (upd H D (.lst ys)))
    (hc : ∀ i D ys (R : Bool → Hp → Prop), i < n → H D = none → R (p i) (upd H D (.lst ys)) → tc (some (item i) :: pickS σ fs) (upd H D (.lst ys)) R)
    (he : ∀ i D ys (R : VK), i < n → H D = none → p i = true → R (g i) (upd H D (.lst ys)) → te (some (item i) :: pickS σ fs) (upd H D (.lst ys)) R)
    (hQ : ∀ D, H D = none → Q (.ref D) (upd H D (.lst (((List.range n).filter p).map g)))) :
    CompRd J tc te fs σ H Q := by
  intro D hD
  refine ⟨fun i m H2 => m = n - i ∧ i ≤ n ∧ H2 = upd H D (.lst (((List.range i).filter p).map g)), ⟨n, by simp⟩, ?_⟩
  rintro i m H2 ⟨rfl, hi, rfl⟩
  by_cases hlt : i < n
  · refine .inr ⟨hgo i D _ hlt hD, fun v H3 yl => ?_⟩
    obtain ⟨rfl, rfl⟩ := hy i D _ v H3 hlt hD yl
    refine hc i D _ _ hlt hD ?_
    have er : ∀ b, p i = b → ((List.range (i + 1)).filter p).map g = ((List.range i).filter p).map g ++ (if b = true then [g i] else []) := fun b hb => by
      rw [List.range_succ, List.filter_append, List.map_append]
      cases b with
      | true => simp [hb]
      | false => simp [hb]
    cases hb : p i with
    | false =>
      show ∃ m', m' < n - i ∧ _
      refine ⟨n - (i + 1), by lia, rfl, hlt, ?_⟩
      rw [er false hb]
      simp
    | true =>
      show te _ _ _
      refine he i D _ _ hlt hD hb ⟨_, upd_same, ?_, n - (i + 1), by lia, rfl, hlt, ?_⟩
      · rw [List.length_map]
        have := List.length_filter_le p (List.range i)
        rw [List.length_range] at this
        lia
      · rw [upd_upd, er true hb]
        simp
  · have e : i = n := by lia
    subst e
    exact .inl ⟨hst D _ hD, hQ D hD⟩
end L2

namespace L2
open PySem PySem.Spec PyProof.Rows
theorem Same.put (s : Same H H') (h : H D = none) : Same H (upd H' D o) := fun b u e => by
  rw [upd_ne (ne_of_none e h)]
  exact s b u e
theorem Same.new (h : H D = none) : Same H (upd H D o) := (Same.refl H).put h
theorem ltG {α : Type _} {l : List α} {i : Nat} {x : α} (h : l[i]? = some x) : i < l.length := (List.getElem?_eq_some_iff.mp h).1
theorem New.mk {H : Hp} {o : HO} {Q : VK} (k : ∀ p H', H p = none → Same H H' → H' p = some o → Q (.ref p) H') : New H o Q := fun p hp => k p _ hp (Same.new hp) upd_same
theorem Same.tup {K : PySem.W.Frag} {H H' : Hp} {a : Addr} {xs : List V} (e : Same H H') (h : SqT K H a xs) : SqT K H' a xs := by
  rcases h with (h | ⟨o, h⟩) | h
  · exact .inl (.inl (e _ _ h))
  · exact .inl (.inr ⟨o, e _ _ h⟩)
  · exact .inr h
theorem comp_rel {J : It} {te : TE} {fs : List Nat} {σ : St} {H : Hp} {Q : VK} (item : Nat → V) (Ok : Nat → V → Prop) (hn : n ≤ sizeLine) 
    (hgo : ∀ i H2, i < n → Same H H2 → J.go i H2)
    (hy : ∀ i H2 v H', i < n → Same H H2 → J.yld i H2 v H' → v = item i ∧ H' = H2)
    (hst : ∀ H2, Same H H2 → J.stop n H2)
    (he : ∀ i H2 (R : VK), i < n → Same H H2 → (∀ y H3, Same H2 H3 → Ok i y → R y H3) → te (some (item i) :: pickS σ fs) H2 R)
    (hQ : ∀ D H2 ys, H D = none → Same H H2 → H2 D = some (.lst ys) → ys.length = n → (∀ (i : Nat) y, ys[i]? = some y → Ok i y) → Q (.ref D) H2) :
    CompRd J tYes te fs σ H Q := by
  intro D hD
  refine ⟨fun i m H2 => m = n - i ∧ i ≤ n ∧ Same H H2 ∧ ∃ ys, H2 D = some (.lst ys) ∧ ys.length = i ∧ ∀ (j : Nat) y, ys[j]? = some y → Ok j y, ⟨n, by simp, Nat.zero_le _, Same.new hD, [], upd_same, rfl, fun j y z => by simp at z⟩, ?_⟩
  rintro i m H2 ⟨rfl, hi, s2, ys, d2, ly, oy⟩
  by_cases hlt : i < n
  · refine .inr ⟨hgo i H2 hlt s2, fun v H3 yl => ?_⟩
    obtain ⟨rfl, rfl⟩ := hy i H2 v H3 hlt s2 yl
    show te _ _ _
    refine he i _ _ hlt s2 fun y H5 s5 ok5 => ⟨ys, s5 _ _ d2, by lia, n - (i + 1), by lia, rfl, hlt, (s2.trans s5).put hD, ys ++ [y], upd_same, by simp [ly], fun j z hz => ?_⟩
    by_cases hj : j < ys.length
    · rw [List.getElem?_append_left hj] at hz
      exact oy j z hz
    · rw [List.getElem?_append_right (by lia)] at hz
      have e : j - ys.length = 0 := by
        cases q : j - ys.length with
        | zero => rfl
        | succ q' => rw [q] at hz; simp at hz
      rw [e] at hz
      have : y = z := by simpa using hz
      subst this
      have : j = i := by lia
      subst this
      exact ok5
  · have e : i = n := by lia
    subst e
    exact .inl ⟨hst H2 s2, hQ D H2 ys hD s2 d2 ly oy⟩
end L2

set_option Elab.async false
set_option linter.all false
set_option maxRecDepth 100000
set_option maxHeartbeats 4000000
namespace L2
open PySem PySem.Spec PyProof.Rows
open Builtin Builtin.Str
theorem clip_nn (n m : Nat) : max 0 (min (m : Int) (n : Int)) = ((min m n : Nat) : Int) := by
  rw [Int.max_eq_right (Int.le_min.mpr ⟨Int.natCast_nonneg _, Int.natCast_nonneg _⟩)]
  by_cases h : m ≤ n
  · rw [Nat.min_eq_left h, Int.min_eq_left (Int.ofNat_le.mpr h)]
  · rw [Nat.min_eq_right (Nat.le_of_not_le h), Int.min_eq_right (Int.ofNat_le.mpr (Nat.le_of_not_le h))]
theorem clip_neg (n : Nat) (h : i < 0) : max 0 (min (i + (n : Int)) (n : Int)) = (((i + (n : Int)).toNat : Nat) : Int) := by
  rw [Int.min_eq_left (by lia), Int.toNat_eq_max, Int.max_comm]
theorem mod_dif {sh : Int} {i j : Nat} (hij : i < j) (hj : j < 6) (h : ((sh + 5 * (i : Int)) % 26).toNat = ((sh + 5 * (j : Int)) % 26).toNat) : False := by
  have h := congrArg (Nat.cast : Nat → Int) h
  rw [Int.toNat_of_nonneg (Int.emod_nonneg _ (by decide)), Int.toNat_of_nonneg (Int.emod_nonneg _ (by decide))] at h
  have := Int.emod_eq_emod_iff_emod_sub_eq_zero.mp h.symm
  rw [show sh + 5 * (j : Int) - (sh + 5 * (i : Int)) = 5 * ((j - i : Nat) : Int) by lia] at this
  have key : ∀ d : Nat, d < 6 → 0 < d → (5 * (d : Int)) % 26 ≠ 0 := by decide
  exact key (j - i) (by lia) (by lia) this
theorem strIx_eq (l u : Option Int) (n : Nat) : strSliceIndices l u 1 n = (List.range (HT.sIx n n u - HT.sIx n 0 l)).map (HT.sIx n 0 l + ·) := by
  have clip : ∀ (v : Option Int) (d : Nat), (match v with | none => (d : Int) | some i => max 0 (min (if i < 0 then i + (n : Int) else i) (n : Int))) = ((HT.sIx n d v : Nat) : Int) := by
    intro v d
    cases v with
    | none => rfl
    | some i =>
      show max 0 (min (if i < 0 then i + (n : Int) else i) (n : Int)) = (((if i < 0 then (i + (n : Int)).toNat else min i.toNat n) : Nat) : Int)
      by_cases h : i < 0
      · simp only [if_pos h]; exact clip_neg n h
      · simp only [if_neg h]
        obtain ⟨m, rfl⟩ := Int.eq_ofNat_of_zero_le (Int.not_lt.mp h)
        exact clip_nn n m
  have hl := clip l 0
  have hu := clip u n
  unfold strSliceIndices sliceRange
  simp only [show (1 : Int) > 0 by decide, if_true, Int.one_mul, Int.ediv_one]
  have e0 : ((0 : Nat) : Int) = 0 := rfl
  rw [e0] at hl
  have gen : ∀ (A B : Int) (a b : Nat), A = (a : Int) → B = (b : Int) → List.map (fun k : Nat => (A + (k : Int)).toNat) (List.range (if A < B then B - A + 1 - 1 else 0).toNat) = List.map (fun x => a + x) (List.range (b - a)) := by
    intro A B a b hA hB
    subst hA hB
    have ec : (if (a : Int) < (b : Int) then (b : Int) - (a : Int) + 1 - 1 else 0).toNat = b - a := by
      split <;> lia
    rw [ec]
    refine List.map_congr_left fun k _ => ?_
    lia
  exact gen _ _ _ _ hl hu
def cutN (xs : List Nat) (l u : Option Int) : List Nat := (xs.drop (HT.sIx xs.length 0 l)).take (HT.sIx xs.length xs.length u - HT.sIx xs.length 0 l)
theorem pick_range {α : Type} (xs : List α) (a k : Nat) (h : a + k ≤ xs.length) : ((List.range k).map (a + ·)).filterMap (xs[·]?) = (xs.drop a).take k := by
  rw [List.filterMap_map]
  induction k with
  | zero => simp
  | succ k ih =>
    rw [List.range_succ, List.filterMap_append, ih (Nat.le_trans (Nat.add_le_add_left (Nat.le_add_right _ _) _) h)]
    have hk : a + k < xs.length := by lia
    have e : (xs.drop a)[k]? = some (xs[a + k]) := by
      rw [List.getElem?_drop]
      exact List.getElem?_eq_getElem hk
    rw [List.take_add_one, e]
    simp [hk]
theorem slice_signs (x : Str) (l u : Option Int) : (Txt.slice x l u).cps.toList = cutN x.cps.toList l u := by
  have hlen : x.cps.toList.length = x.length := by rw [Array.length_toList]; rfl
  have hb : HT.sIx x.length x.length u ≤ x.length := by
    cases u with
    | none => exact Nat.le_refl _
    | some v =>
      show (if v < 0 then (v + (x.length : Int)).toNat else min v.toNat x.length) ≤ x.length
      split <;> lia
  unfold Txt.slice cutN
  rw [hlen, strIx_eq]
  generalize ha : HT.sIx x.length 0 l = a
  generalize hbb : HT.sIx x.length x.length u = b at hb
  by_cases hab : a ≤ b
  · split
    · rename_i h
      simp at h
      have : b - a = x.length := h
      have a0 : a = 0 := by lia
      have b0 : b = x.length := by lia
      subst a0
      rw [b0, ← hlen, List.drop_zero, Nat.sub_zero, List.take_length]
    · show (List.filterMap (fun i => x.cps[i]?) _).toArray.toList = _
      rw [List.toList_toArray]
      have e : (fun i : Nat => x.cps[i]?) = fun i : Nat => x.cps.toList[i]? := by
        funext i
        exact (Array.getElem?_toList).symm
      rw [e]
      exact pick_range _ a (b - a) (by lia)
  · have z : b - a = 0 := by lia
    rw [z]
    simp only [List.range_zero, List.map_nil, List.take_zero]
    split
    · rename_i h
      simp at h
      have : x.cps.toList = [] := List.eq_nil_of_length_eq_zero (by rw [hlen]; exact h.symm)
      exact this
    · rfl
end L2

namespace L2
open PySem PySem.Spec PyProof.Rows
section
variable {X : Cx}
inductive rSlSI (x : V) (lo hi : Option Int) (H : Hp) (Q : VK) : Prop
  | mk (z : _) (x0 : x = .str z) (x1 : z.length ≤ sizeLine) (x2 : Q (.str (Txt.slice z lo hi)) H)
def rSlS : V → Option Int → Option Int → Hp → VK → Prop := fun x lo hi H Q => rSlSI  x lo hi H Q
theorem sl_str : SlR X rSlS := by
  intro pins s σ H x v vl vu lo hi sl Q I rx hs pl pu h
  obtain ⟨z, rfl, hz, q⟩ := h
  obtain ⟨t, rfl⟩ := rx
  refine ⟨"str", _, F.slot_str_getitem.lookup, typeIs_str _ _ _, ?_⟩
  have fin : ∀ t' k, EP X pins σ Q (.str (Txt.slice z lo hi) t') { s with toks := k } := fun t' k => ⟨.str _, H, I.tok k, ⟨t', rfl⟩, q⟩
  cases pl with
  | none =>
    cases pu with
    | none => exact wpAny_getItem_str_slice (l := none) (u := none) (st := none) hs rfl (post_val_or_str ⟨Nat.le_trans (Txt.slice_le z _ _) hz, fin⟩)
    | int j tj => exact wpAny_getItem_str_slice (l := none) (u := some (j, tj)) (st := none) hs rfl (post_val_or_str ⟨Nat.le_trans (Txt.slice_le z _ _) hz, fin⟩)
  | int i ti =>
    cases pu with
    | none => exact wpAny_getItem_str_slice (l := some (i, ti)) (u := none) (st := none) hs rfl (post_val_or_str ⟨Nat.le_trans (Txt.slice_le z _ _) hz, fin⟩)
    | int j tj => exact wpAny_getItem_str_slice (l := some (i, ti)) (u := some (j, tj)) (st := none) hs rfl (post_val_or_str ⟨Nat.le_trans (Txt.slice_le z _ _) hz, fin⟩)
end

theorem turn_walks {K : PySem.W.Frag} {tg : Expr} {Pv : Nat → Value → Prop} {St : Nat → Heap → Prop} {item : Nat → V → Prop} (hW : ∀ A : Around, A.handled = none → Walks P w A it [it] [it] n Pv St) 
    (hobj : ∀ i h, St i h → ∃ (o : Obj) (T : String) (vs : Array Value), h.get? it = some o ∧ o.cls = .type T ∧ o.data = .fields vs ∧
      ["enumerate", "zip", "dict_itemiterator", "dict_reverseitemiterator", "odict_iterator", "itertools.zip_longest", "itertools.pairwise"].contains T = false)
    (hself : ∀ (A : Around) (i : Nat) (s : Shared) (Q : Value → Shared → Prop) (E : Value → Shared → Prop), St i s.heap → Q (.ref it) s → wpAny (model P w) A (pyIter (.ref it)) Q E s)
    (rel : ∀ i u, Pv i u → ∃ x, RelV x u ∧ item i x) : Turn P w K tg ⟨fun i _ => i < n, fun i H x H' => H' = H ∧ item i x, fun i _ => i = n⟩ [it] it St where
  mem := by simp
  obj := fun i h st b hb => by
    have e : b = it := by simpa using hb
    subst e
    obtain ⟨o, T, vs, h1, _, h3, _⟩ := hobj i h st
    exact ⟨o, h1, fun v z => by rw [h3] at z; cases z⟩
  keep := fun i h h' st k => (hW callerA rfl).frame i h h' st fun b hb o e => k b hb o e
  item := fun X hp hw _ hc i pins s σ H E I hf st go => by
    subst hp hw
    have f := hf it (by simp)
    refine (hW X.A (I.ok.hd hc)).item i s _ E go st fun v h' tk hP st' kept => ?_
    obtain ⟨x, rx, hx⟩ := rel i v hP
    obtain ⟨o, T, vs, h1, h2, h3, h4⟩ := hobj _ _ st'
    refine ⟨v, rfl, go_of (o := o) h1 h2 h3 h4 ⟨x, H, I.turned (fun b ob hb e => kept b ob (by simp [hb]) e) f.1 f.2.1 f.2.2.2.1 f.2.2.2.2.1 f.2.2.2.2.2, rx, ⟨rfl, hx⟩, st', fun b hb => ?_⟩⟩
    have e : b = it := by simpa using hb
    subst e
    exact f.1
  done := fun X hp hw _ hc i pins s σ H E I hf st stop => by
    subst hp hw
    have f := hf it (by simp)
    have stop : i = n := stop
    subst stop
    refine (hW X.A (I.ok.hd hc)).done s _ E st fun h' tk kept => ?_
    exact ⟨rfl, I.turned (fun b ob hb e => kept b ob (by simp [hb]) e) f.1 f.2.1 f.2.2.2.1 f.2.2.2.2.1 f.2.2.2.2.2⟩
  self := hself
def Its (z : Str) : It := ⟨fun i _ => i < z.cps.size, fun i H x H' => H' = H ∧ ∃ c, z.cps[i]? = some c ∧ x = .str ⟨#[c]⟩, fun i _ => i = z.cps.size⟩
def iStr (tl : TE) : TI := fun σ H R => tl σ H fun x H1 => ∃ z, x = .str z ∧ R (Its z) H1
section
variable {X : Cx} {tg : Expr}
theorem pi_str (hl : PE X l tl) : PI X tg l (iStr tl) := by
  intro pins s σ H R I h
  refine thn (hl pins s σ H _ I h) fun v s1 zq => zq.elim fun x H1 I1 r1 q1 => ?_
  obtain ⟨z, rfl, q⟩ := q1
  obtain ⟨t, rfl⟩ := r1
  have rel : ∀ i u, SignAt z i u → ∃ x, RelV x u ∧ ∃ c, z.cps[i]? = some c ∧ x = .str ⟨#[c]⟩ := fun i u ⟨c, tk, hc, e⟩ => ⟨.str ⟨#[c]⟩, ⟨tk, e⟩, c, hc, rfl⟩
  have fp : ∀ o : Obj, ∀ b ∈ [s1.heap.objs.size], FpOk X pins H1 b := fun o b hb => by
    have e : b = s1.heap.objs.size := by simpa using hb
    subst e
    exact I1.fpOk (Nat.le_refl _) I1.fresh
  cases ha : z.cps.all (· < 128) with
  | false =>
    refine wpAny_pyIter_wide ha ⟨s1.heap.objs.size, [s1.heap.objs.size], fun i h => h.IsStrIter s1.heap.objs.size "str_iterator" z t i, Its z, H1, rfl, I1.kept (t' := s1.toks) fun b o e => Heap.get?_push_of_some _ e,
      turn_walks (Pv := SignAt z) (fun A hA => Walks.strWide hA _ z t) (fun i h st => ?_) (fun A i s Q E st hQ => wpAny_pyIter_striter_wide st hQ) rel, ⟨_, Heap.get?_push_size _ rfl, rfl, rfl⟩, fp default, q⟩
    obtain ⟨o, h1, h2, h3⟩ := st
    exact ⟨o, _, _, h1, h2, h3, by decide⟩
  | true =>
    refine wpAny_pyIter_ascii ha ⟨s1.heap.objs.size, [s1.heap.objs.size], fun i h => h.IsStrIter s1.heap.objs.size "str_ascii_iterator" z t i, Its z, H1, rfl, I1.kept (t' := s1.toks) fun b o e => Heap.get?_push_of_some _ e,
      turn_walks (Pv := SignAt z) (fun A hA => Walks.strAscii hA _ z t) (fun i h st => ?_) (fun A i s Q E st hQ => wpAny_pyIter_striter_ascii st hQ) rel, ⟨_, Heap.get?_push_size _ rfl, rfl, rfl⟩, fp default, q⟩
    obtain ⟨o, h1, h2, h3⟩ := st
    exact ⟨o, _, _, h1, h2, h3, by decide⟩

inductive r_call_allI (K : PySem.W.Frag) (xs : List V) (H : Hp) (Q : VK) : Prop
  | mk (p : Addr) (bs : List Bool) (h0_ : xs = [.ref p]) (h1_ : SqL K H p (bs.map V.bl)) (h2_ : Q (.bl (bs.all id)) H)
def r_call_all (K : PySem.W.Frag) : List V → Hp → VK → Prop := fun xs H Q => r_call_allI K xs H Q
theorem call_all (hc : X.calm = true) : CallR X (.builtin "all") (r_call_all X.K) := by
  intro pins s σ H xs us Q I r h
  obtain ⟨p, bs, rfl, hp, q⟩ := h
  obtain ⟨u, rfl, ru⟩ := vals1 r
  cases ru
  obtain ⟨its, rv, pl, hz⟩ := I.list hp
  obtain ⟨ob, hob, hob'⟩ := id pl.isList
  have hlt : p < s.heap.objs.size := Heap.lt_size hob
  have hin : X.A.in1.handled = none := I.ok.hd hc
  have hlen : its.toArray.size = bs.length := by rw [List.size_toArray, ← rv.length, List.length_map]
  refine call_all_walk (wpAny_pyIter_list pl.isList ⟨s.heap.objs.size, _, _, _, _, _, fun i => bs.getD i true, rfl, Walks.list hin s.heap.objs.size p (Nat.ne_of_lt hlt) its.toArray, ⟨⟨_, Heap.get?_push_size _ rfl, rfl, rfl⟩, ⟨ob, Heap.get?_push_of_some _ hob, hob'⟩⟩, ?_, fun h' tk kept => ?_⟩)
  · intro i v s' Q' E' hv hq
    have hv : its[i]? = some v := by simpa using hv
    have hi : i < bs.length := by
      have := ltG hv
      rw [← rv.length, List.length_map] at this
      exact this
    have e : (bs.map V.bl)[i]? = some (V.bl bs[i]) := by rw [List.getElem?_map, List.getElem?_eq_getElem hi]; rfl
    obtain ⟨u, hu, ru⟩ := rv.get e
    rw [hv] at hu
    cases hu
    cases ru
    have e2 : bs.getD i true = bs[i] := by rw [List.getD_eq_getElem?_getD, List.getElem?_eq_getElem hi]; rfl
    have hq : Q' (bs.getD i true) s' := hq
    rw [e2] at hq
    exact wpAny_truthy_bool hq
  · refine ⟨.bl (bs.all id), H, I.kept (t' := tk) fun b o e => kept b o (fun z => ?_) (Heap.get?_push_of_some _ e), ?_, q⟩
    · have e' : b = s.heap.objs.size := by simpa using z
      exact Nat.ne_of_lt (Heap.lt_size e) e'
    · show Value.bool _ = Value.bool _
      congr 1
      rw [hlen, Bool.eq_iff_iff, List.all_eq_true, List.all_eq_true]
      constructor
      · intro hall b hb
        obtain ⟨i, hi, rfl⟩ := List.mem_iff_getElem.mp hb
        have := hall i (List.mem_range.mpr hi)
        rw [List.getD_eq_getElem?_getD, List.getElem?_eq_getElem hi] at this
        exact this
      · intro hall i hi
        have hi := List.mem_range.mp hi
        rw [List.getD_eq_getElem?_getD, List.getElem?_eq_getElem hi]
        exact hall _ (List.getElem_mem hi)
theorem strsAre_of  : ∀ {us : List Value}, Vals (ys.map V.str) us → StrsAre us ys := by
  induction ys with
  | nil => intro us r; rw [List.map_nil] at r; cases r; exact .nil
  | cons n ns ih =>
    intro us r
    rw [List.map_cons] at r
    cases r with
    | cons r1 r2 =>
      obtain ⟨t, e⟩ := r1
      subst e
      exact .cons n t (ih r2)
inductive rJoinI (K : PySem.W.Frag) (x : V) (vs : List V) (H : Hp) (Q : VK) : Prop
  | mk (z : Str) (p : Addr) (ys : List Str) (x0 : x = .str z) (x1 : vs = [.ref p]) (x2 : SqL K H p (ys.map V.str)) (x3 : (ys.map (·.length)).sum + ys.length * z.length ≤ 16777216) (x4 : Q (.str (Txt.join z ys)) H)
def rJoin (K : PySem.W.Frag) : V → List V → Hp → VK → Prop := fun x vs H Q => rJoinI K x vs H Q
theorem mt_join : MtR X "str.join" (rJoin X.K) := by
  intro pins s σ H x vs v us Q I rx rv h
  obtain ⟨z, p, ys, rfl, rfl, hp, hz, q⟩ := h
  obtain ⟨t, rfl⟩ := rx
  obtain ⟨u, rfl, ru⟩ := rv.one
  cases ru
  obtain ⟨its, r, pl, _⟩ := I.list hp
  exact join_list pl.isList (by rw [List.toList_toArray]; exact strsAre_of r) hz fun t' k => ⟨.str _, H, I.tok k, ⟨t', rfl⟩, q⟩
inductive r_op_mul_strI (x y : V) (H : Hp) (Q : VK) : Prop
  | mk (z n : _) (h0_ : x = .str z) (h1_ : y = .int n) (h2_ : MulOk z n) (h3_ : Q (.str (Txt.mul z n)) H)
def r_op_mul_str : V → V → Hp → VK → Prop := fun x y H Q => r_op_mul_strI x y H Q
theorem op_mul_str : OpR X (binaryOp .Mult) r_op_mul_str := by
  intro pins s σ H x y v u Q I rx ry h
  obtain ⟨z, n, rfl, rfl, hm, q⟩ := h
  obtain ⟨t, rfl⟩ := rx
  obtain ⟨t', rfl⟩ := ry
  exact SB.mul hm fun t'' k => ⟨.str _, H, I.tok k, ⟨t'', rfl⟩, q⟩
end
end L2

set_option Elab.async false
set_option linter.all false
set_option maxRecDepth 100000
set_option maxHeartbeats 4000000
namespace L2
open PySem PySem.Spec PyProof.Rows
section
variable {X : Cx}
end
end L2
namespace HT
open PySem PyProof.Rows
section
variable {prog : Program} {w : World} {A : Around} {E : Value → Shared → Prop} {s : Shared}
end
end HT
namespace L2
open PySem PySem.Spec PyProof.Rows
section
variable {X : Cx}
end
end L2

set_option Elab.async false
set_option linter.all false
set_option maxRecDepth 100000
set_option maxHeartbeats 4000000
namespace L2
open PySem PySem.Spec PyProof.Rows
inductive TyN (H : Hp) : V → String → Prop where
  | non : TyN H .non "NoneType"
  | bl (b : Bool) : TyN H (.bl b) "bool"
  | int (i : Int) : TyN H (.int i) "int"
  | str (x : Str) : TyN H (.str x) "str"
  | lst {a : Addr} {xs : List V} (e : Rd H a (.lst xs)) : TyN H (.ref a) "list"
  | tup {a : Addr} {xs : List V} (e : H a = some (.tup xs)) : TyN H (.ref a) "tuple"
  | dK {a : Addr} {kvs : List (Key × V)} (e : Rd H a (.dK kvs)) : TyN H (.ref a) "dict"
def isiB (T c : String) : Bool := T == c || (T == "bool" && c == "int")
def isiC (c : String) : Bool := ["int", "bool", "str", "list", "tuple", "dict"].contains c
theorem kit_isi {K : PySem.W.Frag} {H : Hp} {v : V} {T c : String} (h : TyN H v T) (hc : isiC c = true) : PySem.W.kitOne K (.type T) (.type c) = some (isiB T c) := by
  have hc : c = "int" ∨ c = "bool" ∨ c = "str" ∨ c = "list" ∨ c = "tuple" ∨ c = "dict" := by
    unfold isiC at hc
    simpa using hc
  cases h <;> rcases hc with rfl | rfl | rfl | rfl | rfl | rfl <;> kernel_rfl
section
variable {X : Cx}
inductive rIsiI (xs : List V) (H : Hp) (Q : VK) : Prop
  | mk (x c T : _) (x0 : xs = [x, .ty c]) (x1 : isiC c = true) (x2 : TyN H x T) (x3 : Q (.bl (isiB T c)) H)
def rIsi : List V → Hp → VK → Prop := fun xs H Q => rIsiI  xs H Q
theorem isinst_N {A : Around} {E : Value → Shared → Prop} {Q : Value → Shared → Prop} (I : Inv X pins σ H s) (rx : RelV x u) (ty : TyN H x T) (e : PySem.W.kitOne X.K (.type T) (.type c) = some b) (h : ∀ tk, Q (.bool b) { s with toks := tk }) :
    wpAny (model X.prog X.w) A (call (.builtin "isinstance") [u, .type c]) Q E s := by
  cases ty with
  | non => exact isinst_ok I rx .non e h
  | bl y => exact isinst_ok I rx (.bl y) e h
  | int i => exact isinst_ok I rx (.int i) e h
  | str y => exact isinst_ok I rx (.str y) e h
  | tup ea => exact isinst_ok I rx (.tup ea) e h
  | @lst a xs ea =>
    cases (show u = Value.ref a from rx)
    obtain ⟨_, _, n, _, h1⟩ := (show ObjOk X.prog X.w H s.heap a (.lst xs) from ea.ok I.hok)
    exact PySem.W.kia_one PySem.W.kitx_list I.kIn ⟨_, h1, rfl⟩ e (fun z => nomatch z) h
  | @dK a kvs ea =>
    cases (show u = Value.ref a from rx)
    obtain ⟨_, _, vs, _, p⟩ := (show ObjOk X.prog X.w H s.heap a (.dK kvs) from ea.ok I.hok)
    obtain ⟨o, es, ep, h1, h2, _⟩ := p
    exact PySem.W.kia_one PySem.W.kitx_dict I.kIn ⟨o, h1, h2.1⟩ e (fun z => nomatch z) h
theorem call_isiN : CallR X (.builtin "isinstance") rIsi := by
  intro pins s σ H xs us Q I r h
  obtain ⟨x, c, T, rfl, hc, ty, q⟩ := h
  obtain ⟨u, w', rfl, ru, rw'⟩ := vals2 r
  cases rw'
  exact isinst_N I ru ty (kit_isi ty hc) fun tk => ⟨.bl _, H, I.tok tk, rfl, q⟩
end
end L2

set_option Elab.async false
set_option linter.all false
namespace L2
open PySem PySem.Spec PyProof.Rows
end L2

set_option Elab.async false
set_option linter.all false
set_option maxRecDepth 100000
set_option maxHeartbeats 4000000
namespace L2
open PySem PySem.Spec PyProof.Rows
open Builtin Builtin.Str
abbrev sgn (x : Str) : List Nat := x.cps.toList
def LET : List Nat := sgn "abcdefghijklmnopqrstuvwxyz"
def isL (c : Nat) : Bool := decide (c ∈ LET)
theorem sgn_length (x : Str) : (sgn x).length = x.length := by
  show x.cps.toList.length = x.cps.size
  exact Array.length_toList
theorem sgn_append (x y : Str) : sgn (x ++ y) = sgn x ++ sgn y := by
  show (x.cps ++ y.cps).toList = _
  exact Array.toList_append
theorem sgn_slice (x : Str) (l u : Option Int) : sgn (Txt.slice x l u) = cutN (sgn x) l u := slice_signs x l u
def nameS (l : List Nat) : Bool := decide (1 ≤ l.length) && decide (l.length ≤ 8) && l.all isL
def nameB (x : Str) : Bool := nameS (sgn x)
theorem sgn_join (ys : List Str) : sgn (Txt.join "" ys) = (ys.map sgn).flatten := by
  have h : ∀ ys : List Str, sgn (Str.join "" ys) = (ys.map sgn).flatten := by
    intro ys
    induction ys with
    | nil => rfl
    | cons x r ih =>
      cases r with
      | nil =>
        show sgn x = _
        simp
      | cons y r =>
        show sgn (x ++ "" ++ Str.join "" (y :: r)) = _
        rw [sgn_append, sgn_append, ih]
        have : sgn ("" : Str) = [] := by decide
        rw [this]
        simp
  show sgn (Builtin.Str.glued "" ys) = _
  rw [StrLaws.glued_eq_join]
  exact h ys
theorem sIx_n (n d k : Nat) : HT.sIx n d (some (k : Int)) = min k n := by
  show (if (k : Int) < 0 then ((k : Int) + (n : Int)).toNat else min (k : Int).toNat n) = min k n
  rw [if_neg (by lia), Int.toNat_natCast]
theorem cut_to (l : List Nat) (k : Nat) : cutN l none (some (k : Int)) = l.take k := by
  unfold cutN
  have e := sIx_n l.length l.length k
  rw [e]
  show (l.drop 0).take (min k l.length - 0) = _
  rw [List.drop_zero, Nat.sub_zero, List.take_eq_take_min]
  simp
theorem cut_mid (l : List Nat) (a b : Nat) (hab : a ≤ b) (hb : b ≤ l.length) : cutN l (some (a : Int)) (some (b : Int)) = (l.take b).drop a := by
  unfold cutN
  have e1 : HT.sIx l.length 0 (some (a : Int)) = a := (sIx_n _ _ a).trans (Nat.min_eq_left (Nat.le_trans hab hb))
  have e2 : HT.sIx l.length l.length (some (b : Int)) = b := (sIx_n _ _ b).trans (Nat.min_eq_left hb)
  rw [e1, e2, List.drop_take]
theorem all_take {l : List Nat} {p : Nat → Bool} (h : l.all p = true) (k : Nat) : (l.take k).all p = true := by
  rw [List.all_eq_true] at h ⊢
  exact fun x hx => h x (List.mem_of_mem_take hx)
theorem all_drop {l : List Nat} {p : Nat → Bool} (h : l.all p = true) (k : Nat) : (l.drop k).all p = true := by
  rw [List.all_eq_true] at h ⊢
  exact fun x hx => h x (List.mem_of_mem_drop hx)
theorem isL_of_mem (h : c ∈ LET) : isL c = true := decide_eq_true h
theorem nameS_mk (h1 : 1 ≤ l.length) (h2 : l.length ≤ 8) (h3 : l.all isL = true) : nameS l = true := by
  unfold nameS
  simp only [Bool.and_eq_true, decide_eq_true_eq]
  exact ⟨⟨h1, h2⟩, h3⟩
end L2

set_option Elab.async false
set_option linter.all false
set_option maxRecDepth 100000
set_option maxHeartbeats 4000000
namespace L2
open PySem PySem.Spec PyProof.Rows
namespace Dc
end Dc
end L2

set_option Elab.async false
set_option linter.all false
set_option maxRecDepth 100000
set_option maxHeartbeats 4000000
namespace L2
open PySem PySem.Spec PyProof.Rows
section
variable {X : Cx}
inductive r_op_neEI (K : PySem.W.Frag) (x y : V) (H : Hp) (Q : VK) : Prop
  | mk (a b : Addr) (xs : List V) (h0_ : x = .ref a) (h1_ : y = .ref b) (h2_ : SqL K H a xs) (h3_ : SqL K H b []) (h4_ : Q (.bl (!xs.isEmpty)) H)
def r_op_neE (K : PySem.W.Frag) : V → V → Hp → VK → Prop := fun x y H Q => r_op_neEI K x y H Q
theorem op_neE (hu : X.A.units < cLine) : OpR X (compareOp .NotEq) (r_op_neE X.K) := by
  intro pins s σ H x y v u Q I rx ry h
  obtain ⟨a, b, xs, rfl, rfl, ha, hb, q⟩ := h
  cases rx
  cases ry
  obtain ⟨its, r1, p1, _⟩ := I.list ha
  obtain ⟨its2, r2, p2, _⟩ := I.list hb
  cases r2
  have l1 := r1.length
  cases xs with
  | nil =>
    cases r1
    exact SeqAt.RcNeAt.lists (e := fun _ => true) p1.isList p2.isList rfl hu (fun j h1 _ => absurd h1 (by simp)) _ _ _ _ ⟨.bl false, H, I, rfl, q⟩
  | cons z zs =>
    refine SeqAt.RcNeAt.lists_lengths p1.isList p2.isList ?_ hu _ _ _ _ ⟨.bl true, H, I, rfl, q⟩
    rw [List.size_toArray, ← l1]
    simp
def eqTs (xs ys : List V) : Bool := ((List.range (min xs.length ys.length)).all fun j => eqV (xs.getD j .non) (ys.getD j .non)) && xs.length == ys.length
theorem keys_strs {w : World} {P : Program} {vs : List (Key × Value)} {ss : List Str} (hk : vs.map (·.1) = ss.map Sum.inr) {ws : List Value} (hl : ws.length = vs.length)
    (hv : ∀ (j : Nat) (v : Value), ws[j]? = some v → ∃ k x, vs[j]? = some (k, x) ∧ (mixKind P w).is k v = true) : StrsAre ws ss := by
  induction ss generalizing vs ws with
  | nil =>
    have : vs = [] := by cases vs with | nil => rfl | cons a r => simp at hk
    subst this
    have : ws = [] := List.eq_nil_of_length_eq_zero hl
    subst this
    exact .nil
  | cons x r ih =>
    cases vs with
    | nil => simp at hk
    | cons a vs =>
      simp only [List.map_cons, List.cons.injEq] at hk
      cases ws with
      | nil => simp at hl
      | cons u ws =>
        obtain ⟨k, y, e, hi⟩ := hv 0 u rfl
        have e : a = (k, y) := by simpa using e
        subst e
        have hk1 : k = Sum.inr x := hk.1
        subst hk1
        have hi : keyIs (Sum.inr x) u = true := hi
        rcases keyIs_shape hi with ⟨i, t, e1, _⟩ | ⟨z, t, e1, e2⟩
        · cases e1
        · cases e1
          subst e2
          exact .cons _ t (ih hk.2 (by simpa using hl) fun j v hj => hv (j + 1) v (by simpa using hj))
theorem vals_strs (h : StrsAre us ys) : Vals (ys.map V.str) us := by
  induction h with
  | nil => exact .nil
  | cons n t _ ih => exact .cons ⟨t, rfl⟩ ih
inductive r_call_sortedDI (xs : List V) (H : Hp) (Q : VK) : Prop
  | mk (d : Addr) (kv : List (Key × V)) (ss : List Str) (h0_ : xs = [.ref d]) (h1_ : Rd H d (.dK kv)) (h2_ : kv.map (·.1) = ss.map Sum.inr) (h3_ : kv.length < 64) (h4_ : ∀ (p : Addr) (ss' : List Str) (H' : Hp), H p = none → Same H H' → H' p = some (.lst (ss'.map V.str)) → ss'.Perm ss → sortedS ss' = true → Q (.ref p) H')
def r_call_sortedD : List V → Hp → VK → Prop := fun xs H Q => r_call_sortedDI xs H Q
theorem call_sortedD (hc : X.calm = true) : CallR X (.builtin "sorted") r_call_sortedD := by
  intro pins s σ H xs us Q I r h
  obtain ⟨d, kv, ss, rfl, hd, hk, h64, q⟩ := h
  obtain ⟨u, rfl, ru⟩ := vals1 r
  cases ru
  obtain ⟨z, hm, vs, rel, dd⟩ := dk_rd I.hok hd
  have hin : X.A.in1.handled = none := I.ok.hd hc
  have hlv : vs.length = kv.length := rel.length.symm
  have hkv : vs.map (·.1) = ss.map Sum.inr := by rw [← hk]; exact (KV.keys rel).symm
  obtain ⟨ep, hat⟩ := dd.dictAt
  have hz : vs.length ≤ sizeLine := by rw [hlv]; exact z
  refine Calls.call_function_entry kind_sorted plain_sorted entry_sorted (args_sorted1 _) ?_
  unfold Builtin.«sorted»
  refine wpAny_bind (m := checkCount "sorted" 1 1 _) (wpAny_pure (wpAny_bind (PySem.W.kdu_collect (PySem.W.kdl_dict (knd := mixKind X.prog X.w) (kvs := vs) (ep := ep) hm) hin hat hz fun h' tk acc keep items => ?_)))
  have hl : acc.toList.length = vs.length := by rw [Array.length_toList]; exact items.1
  have hS : StrsAre acc.toList ss := keys_strs (P := X.prog) (w := X.w) hkv hl fun j v e => items.2 j v (by rw [← Array.getElem?_toList]; exact e)
  refine wpAny_bind (wpAny_newList ?_ (by rw [hl]; exact hz))
  have hnew : (h'.push { cls := .type "list", data := .seq acc.toList.toArray }).get? h'.objs.size = some (seqObj "list" acc.toList.toArray 0) := Heap.get?_push_size _ rfl
  refine wpAny_bind (wpAny_holding (wpAny_call_entry slot_list_sort ⟨_, hnew, rfl⟩ entry_list_sort (list_sort_treeK strKind_oneLt hnew hS.keysOf (fun v₁ v₂ rest e => keyKind_strs (by rw [← e]; exact hS)) (by rw [hl, hlv]; exact h64) fun st' a1 a2 => ⟨_, rfl, ?_⟩) (args_list_sort _)))
  obtain ⟨ss', b1, b2, b3⟩ := sorted_out_str hS a1 a2
  obtain ⟨ee, he⟩ := sortedHeap_at (out := (arrOf st').map (·.2)) hnew
  refine wpAny_pure ⟨_, rfl, ?_⟩
  have szp : (h'.push { cls := .type "list", data := .seq acc.toList.toArray }).objs.size = h'.objs.size + 1 := size_push' ..
  have I1 := I.kept (t' := tk) keep
  have k2 : ∀ b o, h'.get? b = some o → (sortedHeap (h'.push { cls := .type "list", data := .seq acc.toList.toArray }) h'.objs.size acc.toList ((arrOf st').map (·.2))).get? b = some o := fun b o e => by
    have hb : b < h'.objs.size := Heap.lt_size e
    rw [sortedHeap_old (Nat.ne_of_lt hb) (by rw [szp]; exact Nat.lt_succ_of_lt hb)]
    exact Heap.get?_push_of_some _ e
  have hss : ss'.length ≤ sizeLine := by
    rw [b2.length_eq]
    have := congrArg List.length hk
    rw [List.length_map, List.length_map] at this
    rw [← this]
    exact z
  have new : ObjOk X.prog X.w (upd H h'.objs.size (.lst (ss'.map V.str))) (sortedHeap (h'.push { cls := .type "list", data := .seq acc.toList.toArray }) h'.objs.size acc.toList ((arrOf st').map (·.2))) h'.objs.size (.lst (ss'.map V.str)) :=
    ⟨by rw [List.length_map]; exact hss, ((arrOf st').map (·.2)).toList, ee, vals_strs b1, by rw [Array.toArray_toList]; exact he⟩
  have hf : H h'.objs.size = none := I1.fresh
  exact ⟨.ref h'.objs.size, _, I1.laid (t' := tk) k2 (Nat.le_refl _) new, rfl, q _ ss' _ hf (Same.new hf) upd_same b2 b3⟩
end
end L2

set_option Elab.async false
set_option linter.all false
set_option maxRecDepth 100000
set_option maxHeartbeats 4000000
namespace L2
open PySem PySem.Spec PyProof.Rows
structure Txt (mg : Str → Option Value) : Prop where
  isinstance : mg "isinstance" = none
  int : mg "int" = none
  bool : mg "bool" = none
  str : mg "str" = none
  list : mg "list" = none
  dict : mg "dict" = none
  tuple : mg "tuple" = none
  len : mg "len" = none
  range : mg "range" = none
  max : mg "max" = none
  min : mg "min" = none
  sorted : mg "sorted" = none
  all : mg "all" = none
  any : mg "any" = none
  reversed : mg "reversed" = none
  ValueError : mg "ValueError" = none
  sum : mg "sum" = none
theorem b_isinstance : bootBuiltins "isinstance" = some (.builtin "isinstance") := by decide +kernel
theorem b_int : bootBuiltins "int" = some (.type "int") := by decide +kernel
theorem b_bool : bootBuiltins "bool" = some (.type "bool") := by decide +kernel
theorem b_str : bootBuiltins "str" = some (.type "str") := by decide +kernel
theorem b_list : bootBuiltins "list" = some (.type "list") := by decide +kernel
theorem b_dict : bootBuiltins "dict" = some (.type "dict") := by decide +kernel
theorem b_tuple : bootBuiltins "tuple" = some (.type "tuple") := by decide +kernel
theorem b_sorted : bootBuiltins "sorted" = some (.builtin "sorted") := by decide +kernel
theorem b_all : bootBuiltins "all" = some (.builtin "all") := by decide +kernel
theorem iteBF {c : Bool} {A B : Prop} (hc : c = false) (h : B) : if c = true then A else B := by
  rw [hc]
  exact iteF h
theorem iteBT {c : Bool} {A B : Prop} (hc : c = true) (h : A) : if c = true then A else B := by
  rw [hc]
  exact iteT h
theorem pick_mem {xs : List α} (h0 : 0 ≤ i) (h1 : i < (xs.length : Int)) : ∃ v, atI xs i = some v ∧ v ∈ xs := by
  obtain ⟨n, rfl⟩ := Int.eq_ofNat_of_zero_le h0
  have hn : n < xs.length := by lia
  exact ⟨xs[n], atI_nat (List.getElem?_eq_getElem hn), List.getElem_mem hn⟩
inductive DfE (P : Program) (w : World) (K : PySem.W.Frag) (mg : Str → Option Value) (base : Heap) (x : Str) (ps : List Str) (n : Nat) (sp : Sp) : Prop
  | mk (f : Addr) (fd : FuncData) (k : PySem.W.keepIn K (.ref f) = true) (b : Binds K fd ps []) (m : mg x = some (.ref f)) (G : FnOk P w K mg base CX0 n f fd ps sp)
structure Df (P : Program) (w : World) (K : PySem.W.Frag) (mg : Str → Option Value) (base : Heap) (x : Str) (ps : List Str) (n : Nat) (sp : Sp) : Prop where
  ex : DfE P w K mg base x ps n sp
theorem Df.mk' {P : Program} {w : World} {K : PySem.W.Frag} {mg : Str → Option Value} {base : Heap} {x q : Str} {st : Stmt} {ps : List Str} {n : Nat} {sp : Sp} {f : Addr} {fd : FuncData} (F : Fun K x q st f fd) (b : Binds K fd ps []) (m : mg x = some (.ref f)) (G : FnOk P w K mg base CX0 n f fd ps sp) : Df P w K mg base x ps n sp := ⟨⟨f, fd, F.kp, b, m, G⟩⟩
theorem mod_b (r : Int) (h : 0 < n) : 0 ≤ r % n ∧ r % n < n := ⟨Int.emod_nonneg _ (by lia), Int.emod_lt_of_pos _ h⟩
end L2

set_option Elab.async false
set_option linter.all false
set_option maxRecDepth 100000
set_option maxHeartbeats 4000000
namespace L2
open PySem PySem.Spec PyProof.Rows
def txtB (x : Str) : Bool := decide (x.length ≤ 12) && (sgn x).all isL
def LeafV (v : V) : Prop := (∃ i : Int, v = .int i ∧ i.natAbs < 2 ^ 400) ∨ ∃ x : Str, v = .str x ∧ txtB x = true
namespace Dc
end Dc
abbrev abc : Str := "abcdefghijklmnopqrstuvwxyz"
theorem abc_len : abc.length = 26 := by decide +kernel
theorem LET_len : LET.length = 26 := by decide +kernel
theorem at_let (i : Int) (h0 : 0 ≤ i) (h1 : i < 26) : ∃ c, atI (sgn abc) i = some c ∧ isL c = true := by
  obtain ⟨n, rfl⟩ := Int.eq_ofNat_of_zero_le h0
  have hn : n < LET.length := by rw [LET_len]; lia
  exact ⟨LET[n], atI_nat (List.getElem?_eq_getElem hn), isL_of_mem (List.getElem_mem hn)⟩
theorem mod26 (r : Int) : 0 ≤ r % 26 ∧ r % 26 < 26 := ⟨Int.emod_nonneg _ (by decide), Int.emod_lt_of_pos _ (by decide)⟩
inductive spCellI (K : PySem.W.Frag) (vs : List V) (H : Hp) (Q : VK) (u3_ : XK) : Prop
  | mk (a : Addr) (ns : List Int) (k : Nat) (x0 : vs = [.ref a, .int (k : Int)]) (x1 : SqL K H a (ns.map V.int)) (x2 : ∀ r : Int, 0 ≤ r → Q (.int r) H)
def spCell (K : PySem.W.Frag) : Sp := fun vs H Q u3_ => spCellI K vs H Q u3_
inductive spMixI (vs : List V) (H : Hp) (Q : VK) (u3_ : XK) : Prop
  | mk (c : Int) (k : Nat) (x0 : vs = [.int c, .int (k : Int)]) (x1 : k ≤ 1000) (x2 : ∀ r : Int, 0 ≤ r → r < 2305843009213693951 → Q (.int r) H)
def spMix : Sp := fun vs H Q u3_ => spMixI  vs H Q u3_
def divs : Nat → Int → Int
  | 0, n => n
  | k + 1, n => divs k n / 1000000
def mixN (c : Int) (k : Nat) : Int := (((c + 3) * 1181783497276652981 % 2305843009213693951 + ((k : Int) + 1) * 614889782588491411) % 2305843009213693951) * (((c + 3) * 1181783497276652981 % 2305843009213693951 + ((k : Int) + 1) * 614889782588491411) % 2305843009213693951) % 999999999999999989
def mixF (c : Int) (k : Nat) : Int := if c % 4 = 0 ∧ 4 * 10 ^ 60 ≤ c then divs k (c / 4) % 1000000 else (mixN c k + 1) * (mixN c k / 1000003 + 7) % 2305843009213693951 / 7919
theorem mixF_b (c : Int) (k : Nat) : 0 ≤ mixF c k ∧ mixF c k < 2305843009213693951 := by
  unfold mixF
  split
  · have h1 := Int.emod_nonneg (divs k (c / 4)) (show (1000000 : Int) ≠ 0 by decide)
    have h2 := Int.emod_lt_of_pos (divs k (c / 4)) (show (0 : Int) < 1000000 by decide)
    lia
  · have h1 := Int.emod_nonneg ((mixN c k + 1) * (mixN c k / 1000003 + 7)) (show (2305843009213693951 : Int) ≠ 0 by decide)
    have h2 := Int.emod_lt_of_pos ((mixN c k + 1) * (mixN c k / 1000003 + 7)) (show (0 : Int) < 2305843009213693951 by decide)
    lia
inductive spMixFI (vs : List V) (H : Hp) (Q : VK) (u3_ : XK) : Prop
  | mk (c : Int) (k : Nat) (x0 : vs = [.int c, .int (k : Int)]) (x1 : k ≤ 1000) (x2 : Q (.int (mixF c k)) H)
def spMixF : Sp := fun vs H Q u3_ => spMixFI  vs H Q u3_
theorem spMix_of (h : spMix vs H Q E) : spMixF vs H Q E := by
  obtain ⟨c, k, e, hk, q⟩ := h
  exact ⟨c, k, e, hk, q _ (mixF_b c k).1 (mixF_b c k).2⟩
theorem nodup_by {ys : List Str} (P : Nat → Str → Prop) (h : ∀ (j : Nat) y, ys[j]? = some y → P j y) (inj : ∀ (i j : Nat) y, i < j → j < ys.length → P i y → P j y → False) : ys.Nodup := by
  refine List.pairwise_iff_getElem.mpr fun i j hi hj hij e => ?_
  have h1 := h i _ (List.getElem?_eq_getElem hi)
  have h2 := h j _ (List.getElem?_eq_getElem hj)
  rw [← e] at h2
  exact inj i j _ hij hj h1 h2
inductive spLawI (K : PySem.W.Frag) (vs : List V) (H : Hp) (Q : VK) (u3_ : XK) : Prop
  | mk (a : Addr) (ns : List Int) (x0 : vs = [.ref a]) (x1 : SqL K H a (ns.map V.int)) (x2 : ns.length ≤ 63) (x3 : ∀ H', Q (.bl true) H')
def spLaw (K : PySem.W.Frag) : Sp := fun vs H Q u3_ => spLawI K vs H Q u3_
end L2

set_option Elab.async false
set_option linter.all false
set_option maxRecDepth 100000
set_option maxHeartbeats 4000000
namespace L2
open PySem PySem.Spec PyProof.Rows
theorem le_line (h : n ≤ 1000) : n ≤ sizeLine := Nat.le_of_lt (small1000 h)
theorem two_line  : [x, y].length ≤ sizeLine := le_line (show 2 ≤ 1000 by decide)
theorem one_line  : [x].length ≤ sizeLine := le_line (show 1 ≤ 1000 by decide)
namespace Dc
end Dc
end L2

set_option Elab.async false
set_option linter.all false
set_option maxRecDepth 100000
set_option maxHeartbeats 4000000
namespace L2
open PySem PySem.Spec PyProof.Rows
section
variable {X : Cx} {pins : List (Addr × Obj)} {σ : St} {H : Hp} {s : Shared} {a : Addr} {kvs : List (Key × V)}
end
section
variable {X : Cx}
end
section
variable {X : Cx} {tg : Expr}
end
end L2

set_option Elab.async false
set_option linter.all false
set_option maxRecDepth 100000
set_option maxHeartbeats 4000000
namespace PySem
open PyProof.Rows PySem.F PySem.Spec
section
variable {prog : Program} {w : World} {K : Type} [DecidableEq K] {knd : KeyKind prog w K} {A : Around} {R : Result → Shared → Prop}
end
end PySem
namespace L2
open PySem PySem.Spec PyProof.Rows
section
variable {X : Cx}
end
end L2

set_option Elab.async false
set_option linter.all false
set_option maxRecDepth 100000
set_option maxHeartbeats 4000000
namespace L2
open PySem PySem.Spec PyProof.Rows
theorem eqV_self (h : flatV x = true) : eqV x x = true := by
  cases x with
  | non => rfl
  | bl b => exact beq_self_eq_true b
  | int i => exact beq_self_eq_true i
  | str s => exact beq_self_eq_true s
  | _ => cases h
theorem eqTs_self (h : ∀ z ∈ xs, flatV z = true) : eqTs xs xs = true := by
  unfold eqTs
  rw [Nat.min_self, Bool.and_eq_true]
  refine ⟨List.all_eq_true.mpr fun j hj => ?_, beq_self_eq_true _⟩
  have hj := List.mem_range.mp hj
  rw [List.getD_eq_getElem?_getD, List.getElem?_eq_getElem hj]
  exact eqV_self (h _ (List.getElem_mem hj))
section
variable {X : Cx}
theorem flat_eqAt {pins : List (Addr × Obj)} {σ : St} {H : Hp} {s : Shared} {A : Around} (r1 : Vals xs its) (r2 : Vals ys its2) (fx : ∀ z ∈ xs, flatV z = true) (fy : ∀ z ∈ ys, flatV z = true) 
    (j : Nat) (h1 : j < its.toArray.size) (h2 : j < its2.toArray.size) : SeqAt.EqAt A s its.toArray[j] its2.toArray[j] (eqV (xs.getD j .non) (ys.getD j .non)) := by
  have e1 : its.toArray.size = xs.length := by rw [List.size_toArray]; exact r1.length.symm
  have e2 : its2.toArray.size = ys.length := by rw [List.size_toArray]; exact r2.length.symm
  have h1' : j < xs.length := by rw [← e1]; exact h1
  have h2' : j < ys.length := by rw [← e2]; exact h2
  obtain ⟨u1, g1, s1⟩ := r1.get (List.getElem?_eq_getElem h1')
  obtain ⟨u2, g2, s2⟩ := r2.get (List.getElem?_eq_getElem h2')
  have w1 : its.toArray[j] = u1 := by
    have := (List.getElem?_eq_some_iff.mp g1).2
    simpa using this
  have w2 : its2.toArray[j] = u2 := by
    have := (List.getElem?_eq_some_iff.mp g2).2
    simpa using this
  rw [w1, w2]
  have d1 : xs.getD j .non = xs[j] := by rw [List.getD_eq_getElem?_getD, List.getElem?_eq_getElem h1']; rfl
  have d2 : ys.getD j .non = ys[j] := by rw [List.getD_eq_getElem?_getD, List.getElem?_eq_getElem h2']; rfl
  rw [d1, d2]
  exact eqAt_V s1 s2 (fx _ (List.getElem_mem h1')) (fy _ (List.getElem_mem h2'))
theorem pe_range {p pos : Pos} (hg : Gl X "range") (hm : X.mg "range" = none) (ha : PA X [a] ta) (hs : starEach [a] X.env = [(false, eval a X.env)] := by rfl) :
    PE X (.Call (.Name "range" p) [a] [] pos) (fun σ H Q => ta σ H fun vs H1 => ∃ j : Int, vs = [.int j] ∧ ∀ r, H1 r = none → Q (.ref r) (upd H1 r (.rng 0 j))) := by
  intro pins s σ H Q I h
  refine Call_ (ld_blt I hg hm boot_range (PyProof.Rows.callWith_type1 (thn (ha pos pins s σ H _ I h) fun us s1 zq => zq.elim fun vs H1 I1 r1 q1 => ?_) hs rfl))
  obtain ⟨j, e, q⟩ := q1
  subst e
  cases r1 with
  | cons r rr =>
    cases rr
    obtain ⟨t, rfl⟩ := r
    exact call_range_1 ⟨.ref s1.heap.objs.size, upd H1 s1.heap.objs.size (.rng 0 j), I1.laid (fun b o e => Heap.get?_push_of_some _ e) (Nat.le_refl _) ⟨_, _, _, Heap.get?_push_size _ rfl⟩, rfl, q _ I1.fresh⟩
inductive r_call_list_rngI (xs : List V) (H : Hp) (Q : VK) : Prop
  | mk (r : Addr) (n : Nat) (h0_ : xs = [.ref r]) (h1_ : H r = some (.rng 0 (n : Int))) (h2_ : n ≤ 1000) (h3_ : New H (.lst ((List.range n).map fun (i : Nat) => V.int (i : Int))) Q)
def r_call_list_rng : List V → Hp → VK → Prop := fun xs H Q => r_call_list_rngI xs H Q
theorem call_list_rng (hc : X.calm = true) : CallR X (.type "list") r_call_list_rng := by
  intro pins s σ H xs us Q I r h
  obtain ⟨r0, n, rfl, hr, hn, q⟩ := h
  obtain ⟨u, rfl, ru⟩ := vals1 r
  cases ru
  obtain ⟨t, u, v, e⟩ := (show ObjOk X.prog X.w H s.heap r0 (.rng 0 (n : Int)) from I.hok r0 _ hr)
  have hin : X.A.handled = none := I.ok.hd hc
  refine call_list_range (n := n) hin e (small_one (by lia) (by lia) (Int.le_trans (by decide) (Int.natCast_nonneg _)) (Int.lt_of_le_of_lt (Int.ofNat_le.mpr hn) (by decide))) (by rw [rangeSize_one]; split <;> lia) (by lia) fun h' tk acc c' kp e' it => ?_
  have hz : ((List.range n).map fun (i : Nat) => V.int (i : Int)).length ≤ sizeLine := by rw [List.length_map, List.length_range]; exact le_line hn
  refine ⟨.ref s.heap.objs.size, _, I.laid (t' := tk) kp (Nat.le_refl _) (show ObjOk X.prog X.w _ h' _ (.lst _) from ⟨hz, acc.toList, c', ?_, by rw [Array.toArray_toList]; exact e'⟩), rfl, q _ I.fresh⟩
  have gen : ∀ (n : Nat) (l : List Value), l.length = n → (∀ (i : Nat) v, l[i]? = some v → ∃ t, v = Value.int (0 + (i : Int) * 1) t) → Vals ((List.range n).map fun (i : Nat) => V.int (i : Int)) l := by
    intro n
    induction n with
    | zero => intro l hl _; rw [List.eq_nil_of_length_eq_zero hl]; exact .nil
    | succ n ih =>
      intro l hl hi
      have hne : l ≠ [] := fun z => by rw [z] at hl; cases hl
      have e1 : l = l.dropLast ++ [l.getLast hne] := (List.dropLast_concat_getLast hne).symm
      rw [List.range_succ, List.map_append, e1]
      refine (ih l.dropLast (by rw [List.length_dropLast, hl]; rfl) fun i v hv => ?_).append (.cons ?_ .nil)
      · refine hi i v ?_
        rw [e1, List.getElem?_append_left ((ltG hv))]
        exact hv
      · have : l[n]? = some (l.getLast hne) := by
          rw [List.getLast_eq_getElem]
          have : l.length - 1 = n := by lia
          rw [List.getElem?_eq_getElem (Nat.lt_of_lt_of_le (Nat.lt_succ_of_le (Nat.le_refl _)) (Nat.le_of_eq hl.symm))]
          congr 1
          simp [this]
        obtain ⟨t, e⟩ := hi n _ this
        exact ⟨t, by rw [e]; congr 1; lia⟩
  exact gen n acc.toList (by rw [Array.length_toList]; exact it.1) fun i v hv => it.2 i v (by rw [← Array.getElem?_toList]; exact hv)
end
end L2

set_option Elab.async false
set_option linter.all false
set_option maxRecDepth 100000
set_option maxHeartbeats 4000000
namespace L2
open PySem PySem.Spec PyProof.Rows
namespace Dc
end Dc
theorem while_W {c : TT} {tb : TS} {D : Ends} (W : Nat → St → Hp → Prop) (m0 : Nat) (h0 : W m0 σ H) 
    (hs : ∀ m σ H e, Go D (fun σ' H' => ∃ m', m' < m ∧ W m' σ' H') e → W m σ H → c σ H fun b H1 => if b = true then tb e σ H1 else D.nx σ H1)
    (mono : ∀ σ H Q Q', (∀ b H1, Q b H1 → Q' b H1) → c σ H Q → c σ H Q') : tWhile c tb D σ H := by
  refine ⟨W, ⟨m0, h0⟩, fun m σ H p => ?_⟩
  refine mono σ H _ _ (fun b H1 q => ?_) (hs m σ H { D with nx := fun σ' H' => ∃ m', m' < m ∧ W m' σ' H', ct := fun σ' H' => ∃ m', m' < m ∧ W m' σ' H', bk := D.nx } ⟨id, id⟩ p)
  cases b with
  | true => exact ⟨_, fun σ' H' z => z, q⟩
  | false => exact q
end L2

set_option Elab.async false
set_option linter.all false
set_option maxRecDepth 100000
set_option maxHeartbeats 4000000
namespace L2
open PySem PySem.Spec PyProof.Rows
def back (a : Addr) (H H' : Hp) : Hp := fun b => if b = a then H a else H' b
section
variable {X : Cx}
end
namespace Dc
end Dc
end L2

set_option Elab.async false
set_option linter.all false
set_option maxRecDepth 100000
set_option maxHeartbeats 4000000
namespace L2
open PySem PySem.Spec PyProof.Rows
def nameV : V → Bool
  | .str x => nameB x
  | _ => false
def Short (v : V) : Prop := ∀ x, v = .str x → x.length ≤ 1000
inductive spLettersI (vs : List V) (H : Hp) (Q : VK) (u3_ : XK) : Prop
  | mk (x : Str) (x0 : vs = [.str x]) (x1 : x.length ≤ 1000) (x2 : ∀ H', Same H H' → Q (.bl ((sgn x).all isL)) H')
def spLetters : Sp := fun vs H Q u3_ => spLettersI  vs H Q u3_
inductive spNameI (vs : List V) (H : Hp) (Q : VK) (u3_ : XK) : Prop
  | mk (v T : _) (x0 : vs = [v]) (x1 : TyN H v T) (x2 : Short v) (x3 : ∀ H', Same H H' → Q (.bl (nameV v)) H')
def spName : Sp := fun vs H Q u3_ => spNameI  vs H Q u3_
end L2

set_option Elab.async false
set_option linter.all false
set_option maxRecDepth 100000
set_option maxHeartbeats 4000000
namespace L2
open PySem PySem.Spec PyProof.Rows
end L2
namespace L2
open PySem PySem.Spec PyProof.Rows
end L2

set_option Elab.async false
set_option linter.all false
set_option maxRecDepth 100000
set_option maxHeartbeats 4000000
namespace L2
open PySem PySem.Spec PyProof.Rows
namespace Dc
end Dc
end L2

set_option Elab.async false
set_option linter.all false
set_option maxRecDepth 100000
set_option maxHeartbeats 4000000
namespace L2
open PySem PySem.Spec PyProof.Rows
namespace Dc
end Dc
end L2

set_option Elab.async false
set_option linter.all false
set_option maxRecDepth 100000
set_option maxHeartbeats 4000000
namespace L2
open PySem PySem.Spec PyProof.Rows
namespace Dc
end Dc
inductive spNames1I (vs : List V) (H : Hp) (Q : VK) (u3_ : XK) : Prop
  | mk (c : Int) (x0 : vs = [.int c]) (x1 : ∀ (p : Addr) (ys : List Str) (H' : Hp), Same H H' → H p = none → H' p = some (.lst (ys.map V.str)) → ys.length = 6 → ys.Nodup → (∀ y ∈ ys, nameB y = true) → Q (.ref p) H')
def spNames1 : Sp := fun vs H Q u3_ => spNames1I  vs H Q u3_
def LetS (n : Nat) (v : V) : Prop := ∃ x : Str, v = .str x ∧ x.length = n ∧ (sgn x).all isL = true
theorem letS_list  : ∀ ys : List V, (∀ y ∈ ys, LetS n y) → ∃ zs : List Str, ys = zs.map V.str ∧ (zs.map (·.length)).sum = n * ys.length ∧ ((zs.map sgn).flatten).length = n * ys.length ∧ ((zs.map sgn).flatten).all isL = true
  | [], _ => ⟨[], rfl, rfl, rfl, rfl⟩
  | y :: r, h => by
    obtain ⟨x, e, hl, ha⟩ := h y List.mem_cons_self
    obtain ⟨zs, e2, h2, h3, h4⟩ := letS_list r fun z hz => h z (List.mem_cons_of_mem _ hz)
    have hx : (sgn x).length = n := by rw [sgn_length]; exact hl
    refine ⟨x :: zs, by rw [e, e2]; rfl, ?_, ?_, ?_⟩
    · rw [List.map_cons, List.sum_cons, h2, hl, List.length_cons, Nat.mul_succ]; lia
    · rw [List.map_cons, List.flatten_cons, List.length_append, h3, hx, List.length_cons, Nat.mul_succ]; lia
    · rw [List.map_cons, List.flatten_cons, List.all_append, ha, h4]; rfl
end L2
namespace L2
open PySem PySem.Spec PyProof.Rows
section
variable {X : Cx} {CX : CXT} {k : Nat} {f : Addr} {fd : FuncData} {ps : List Str} {ds : List Value} {dvs : List V} {sp : Sp} {E : XK} {x : Str} {p pos : Pos} {e : Expr} {es : List Expr} {t : TA} {tf : TE}
theorem pe_callV (hf : PE X (.Name x p) tf) (F : FnOk X.prog X.w X.K X.mg X.base CX k f fd ps sp) (hr : Room k X.A) (hk : PySem.W.keepIn X.K (.ref f) = true) (hb : Binds X.K fd ps ds) (hd : Vals dvs ds) (hx : Passes CX X E) 
    (ha : PA X (e :: es) t) (he : starEach (e :: es) X.env = (false, eval e X.env) :: starEach es X.env := by rfl) (hpl : (backTo pos (starEach es X.env)).any (·.1) = false := by rfl) :
    PE X (.Call (.Name x p) (e :: es) [] pos) (fun σ H Q => tf σ H fun v H1 => v = .ref f ∧ tCall sp dvs E t σ H1 Q) := by
  intro pins s σ H Q I h
  refine wpAny_Call_Name_kw (thn (hf pins s σ H _ I h) fun u s0 ⟨v, H0, I0, r0, ev, q⟩ => ?_)
  subst ev
  cases (show u = Value.ref f from r0)
  refine PySem.W.callWith_K (h₀ := X.base) I0.ok.mod.kin hk (thn (ha pos pins s0 σ H0 _ I0 q) fun us s1 zq => zq.elim fun vs H1 I1 r q => ⟨I1.kIn, ?_⟩) he hpl
  exact run_fn F hr hb hd hx I1 r q
end
theorem len1 (K : PySem.W.Frag) {X : Cx} {e : Expr} {te : TE} {p pos : Pos} (T : Txt X.mg) (h : PE X e te) (hg : Gl X "len" := by rfl) (he : starEach [e] X.env = (false, eval e X.env) :: starEach [] X.env := by rfl) (ek : X.K = K := by rfl) : PE X (.Call (.Name "len" p) [e] [] pos) (tCB (r_call_len_seq K) (tCons te tNil)) := by
  subst ek
  exact pe_callB call_len_seq hg T.len PySem.boot_len (pa_cons h pa_nil he) (by decide) (by decide) he
section
variable {X : Cx} {o e : Expr} {to te : TE} {apos cpos : Pos}
theorem xtd (K : PySem.W.Frag) (ho : PE X o to) (ha : PE X e te)
    (hfew : ((backTo cpos (starEach [e] X.env)).all (fun x => !x.1) && (backToKw cpos (keywordEach [] X.env)).all (fun x => x.1.isSome)
      && decide ([e].length + ([] : List Keyword).length + (if ([] : List Keyword).isEmpty then 0 else 1) < 30)) = true := by rfl) (hbase : attributeBase o "extend" X.env (eval o X.env) = eval o X.env := by rfl) (hline : (apos.endLine == cpos.line) = true := by rfl) (hs : starEach [e] X.env = (false, eval e X.env) :: starEach [] X.env := by rfl) (ek : X.K = K := by rfl) :
    PE X (.Call (.Attribute o "extend" apos) [e] [] cpos) (tBM K "list" rExtend to (tCons te tNil)) := by
  subst ek
  exact pe_bm PySem.F.plainAttrs_list PySem.F.slot_list_extend PySem.F.type_list_extend mt_extend ho (pa_cons ha pa_nil hs) hbase hfew hline hs rfl
theorem apd (K : PySem.W.Frag) (ho : PE X o to) (ha : PE X e te)
    (hfew : ((backTo cpos (starEach [e] X.env)).all (fun x => !x.1) && (backToKw cpos (keywordEach [] X.env)).all (fun x => x.1.isSome)
      && decide ([e].length + ([] : List Keyword).length + (if ([] : List Keyword).isEmpty then 0 else 1) < 30)) = true := by rfl) (hbase : attributeBase o "append" X.env (eval o X.env) = eval o X.env := by rfl) (hline : (apos.endLine == cpos.line) = true := by rfl) (hs : starEach [e] X.env = (false, eval e X.env) :: starEach [] X.env := by rfl) (ek : X.K = K := by rfl) :
    PE X (.Call (.Attribute o "append" apos) [e] [] cpos) (tBM K "list" rAppend to (tCons te tNil)) := by
  subst ek
  exact pe_bm PySem.F.plainAttrs_list PySem.F.slot_list_append PySem.F.type_list_append mt_append ho (pa_cons ha pa_nil hs) hbase hfew hline hs rfl
end
end L2

set_option Elab.async false
set_option linter.all false
set_option maxRecDepth 100000
set_option maxHeartbeats 4000000
namespace L2
open PySem PySem.Spec PyProof.Rows
section
variable {X : Cx} {pins : List (Addr × Obj)} {σ : St} {H : Hp} {s : Shared}
end
def keyD : Key → PyData
  | .inl i => .int i
  | .inr x => .str x
end L2

set_option Elab.async false
set_option linter.all false
set_option maxRecDepth 100000
set_option maxHeartbeats 4000000
namespace L2
open PySem PySem.Spec PyProof.Rows
theorem at0  : atI (x :: r) 0 = some x := atI_nat (j := 0) rfl
theorem at1  : atI (x :: y :: r) 1 = some y := atI_nat (j := 1) rfl
theorem at2  : atI (x :: y :: z :: r) 2 = some z := atI_nat (j := 2) rfl
theorem ite2B {c : Bool} {A B : Prop} (h1 : c = true → A) (h2 : c = false → B) : if c = true then A else B := by
  cases c with
  | true => exact iteT (h1 rfl)
  | false => exact iteF (h2 rfl)
theorem pss_consE {X : Cx} {ss rest : List Stmt} {st : Stmt} {t u : TS} (e : ss = st :: rest) (h1 : PS X st t) (h2 : PSs X rest u) : PSs X ss (tSeq t u) := by
  subst e
  exact pss_cons h1 h2
def aheadP (zs xs : List V) : List V :=
  match zs[xs.length - 1]?, xs.getLast? with
  | some (.int i), some (.int j) => if eqTs (zs.take (xs.length - 1)) xs.dropLast = true ∧ (j < i ∨ (i = j ∧ xs.length < zs.length)) then zs.set (xs.length - 1) (.int (i + 1)) else zs
  | _, _ => zs
def toP (w : Str) (xs zs : List V) : List V := if w = "copy" then zs else if w = "move" then aheadP zs xs else xs
def wordsCs : List Str := ["put", "copy", "move"]
def wordsPs : List Str := ["take", "change", "move", "copy", "ask", "has", "is"]
abbrev wordsC : List V := wordsCs.map V.str
abbrev wordsP : List V := wordsPs.map V.str
def strsB : List Value → List Str → Bool
  | [], [] => true
  | .str x _ :: us, y :: ys => x == y && strsB us ys
  | _, _ => false
def tupB (K : PySem.W.Frag) (a : Addr) (ws : List Str) : Bool := match K.lookup a with
  | some o => o.cls == .type "tuple" && (match o.data with
    | .seq its _ => decide (its.size ≤ 1000) && strsB its.toList ws
    | _ => false)
  | none => false
theorem strs_vals : ∀ {us : List Value} {ws : List Str}, strsB us ws = true → Vals (ws.map V.str) us
  | [], [], _ => .nil
  | [], _ :: _, h => by cases h
  | u :: us, [], h => by cases u <;> cases h
  | u :: us, y :: ys, h => by
    cases u with
    | str x t =>
      have g : (x == y && strsB us ys) = true := h
      simp only [Bool.and_eq_true, beq_iff_eq] at g
      obtain ⟨e, g⟩ := g
      subst e
      exact .cons ⟨t, rfl⟩ (strs_vals g)
    | _ => cases h
theorem SqT.ofK {K : PySem.W.Frag} {a : Addr} {ws : List Str} (h : tupB K a ws = true) (H : Hp) : SqT K H a (ws.map V.str) := by
  unfold tupB at h
  split at h
  · rename_i o lk
    simp only [Bool.and_eq_true, beq_iff_eq] at h
    obtain ⟨hc, h⟩ := h
    split at h
    · rename_i its n hd
      simp only [Bool.and_eq_true, decide_eq_true_eq] at h
      exact .inr ⟨o, its, n, lk, hc, hd, le_line h.1, strs_vals h.2⟩
    · cases h
  · cases h
def nA (w : Str) (xs : List V) : List (List V) := if inV (.str w) wordsP then [xs] else []
def nB (w : Str) (xs : List V) : List (List V) := if w = "lacks" then [xs.dropLast] else []
def nC (w : Str) (xs zs : List V) : List (List V) := if inV (.str w) wordsC then [(toP w xs zs).dropLast] else []
end L2
namespace L2
open PySem PySem.Spec PyProof.Rows
end L2
namespace L2
open PySem PySem.Spec PyProof.Rows
end L2

set_option Elab.async false
set_option linter.all false
set_option maxRecDepth 100000
set_option maxHeartbeats 4000000
namespace L2
open PySem PySem.Spec PyProof.Rows
structure OdP (a : Addr) (o : Obj) (k v : V) (h : Heap) : Prop where
  ns : (a == sysModules) = false
  ho : h.get? a = some o
  ex : o.ExactDict
  dt : ∃ (ku vu : Value) (hs : Int) (ep : Nat), RelV k ku ∧ RelV v vu ∧ o.data = .dict #[⟨hs, ku, vu⟩] ep
def OdO (a : Addr) (o : Obj) (k v : V) : HO := .ext (OdP a o k v)
def isO : Bool → Value → Bool
  | true, .bool true => true
  | false, .none => true
  | _, _ => false
end L2

set_option Elab.async false
set_option linter.all false
set_option maxRecDepth 100000
set_option maxHeartbeats 4000000
namespace L2
open PySem PySem.Spec PyProof.Rows
section
variable {prog : Program} {w : World} {A : Around} {E : Value → Shared → Prop} {s : Shared} {it d : Addr} {o : Obj} {en : DictEntry} {ep : Nat}
end
section
variable {X : Cx} {tg : Expr}
end
end L2

set_option Elab.async false
set_option linter.all false
set_option maxRecDepth 100000
set_option maxHeartbeats 4000000
namespace L2
open PySem PySem.Spec PyProof.Rows
inductive Uns (H : Hp) : V → Prop
  | bl (b : Bool) : Uns H (.bl b)
  | non : Uns H .non
  | tup {a : Addr} {xs : List V} (h : H a = some (.tup xs)) : Uns H (.ref a)
  | txt {x : Str} (l : x.length ≤ 20) (h : txtB x = false) : Uns H (.str x)
  | key {a : Addr} {k : Key} {v : V} (h : Rd H a (.dK [(k, v)])) (n : nameV (kV k) = false) (s : Short (kV k)) : Uns H (.ref a)
  | odd {a : Addr} {o : Obj} {k v : V} {T : String} (h : H a = some (OdO a o k v)) (t : TyN H k T) (n : nameV k = false) (s : Short k) : Uns H (.ref a)
inductive Node (H : Hp) : V → List V → Prop
  | leaf {v : V} (h : LeafV v) : Node H v []
  | row {a : Addr} {xs : List V} (h : Rd H a (.lst xs)) : Node H (.ref a) xs
  | tab {a : Addr} {kvs : List (Key × V)} {ks : List Str} (h : Rd H a (.dK kvs)) (hk : kvs.map (·.1) = ks.map Sum.inr) (nd : ks.Nodup) (nm : ∀ k ∈ ks, nameB k = true) (l : kvs.length < 64) : Node H (.ref a) (kvs.map (·.2))
end L2

set_option Elab.async false
set_option linter.all false
set_option maxRecDepth 100000
set_option maxHeartbeats 4000000
namespace L2
open PySem PySem.Spec PyProof.Rows
end L2

set_option Elab.async false
set_option linter.all false
set_option maxRecDepth 100000
set_option maxHeartbeats 4000000
namespace L2
open PySem PySem.Spec PyProof.Rows
namespace Dc
end Dc
section
variable {X : Cx}
inductive r_op_neTI (K : PySem.W.Frag) (x y : V) (H : Hp) (Q : VK) : Prop
  | mk (a b : Addr) (xs ys : List V) (h0_ : x = .ref a) (h1_ : y = .ref b) (h2_ : SqT K H a xs) (h3_ : SqT K H b ys) (h4_ : (∀ z ∈ xs, flatV z = true)) (h5_ : (∀ z ∈ ys, flatV z = true)) (h6_ : Q (.bl (!eqTs xs ys)) H)
def r_op_neT (K : PySem.W.Frag) : V → V → Hp → VK → Prop := fun x y H Q => r_op_neTI K x y H Q
theorem op_neT (hu : X.A.units < cLine) : OpR X (compareOp .NotEq) (r_op_neT X.K) := by
  intro pins s σ H x y v u Q I rx ry h
  obtain ⟨a, b, xs, ys, rfl, rfl, ha, hb, fx, fy, q⟩ := h
  cases rx
  cases ry
  obtain ⟨its, r1, p1, _⟩ := I.tuple ha
  obtain ⟨its2, r2, p2, _⟩ := I.tuple hb
  have e1 : its.toArray.size = xs.length := by rw [List.size_toArray]; exact r1.length.symm
  have e2 : its2.toArray.size = ys.length := by rw [List.size_toArray]; exact r2.length.symm
  refine SeqAt.RcNeAt.tuples (e := fun j => eqV (xs.getD j .non) (ys.getD j .non)) p1 p2 hu (fun j h1 h2 => flat_eqAt (pins := pins) (σ := σ) (H := H) r1 r2 fx fy j h1 h2) _ _ _ _ ?_
  rw [e1, e2]
  exact ⟨.bl (!eqTs xs ys), H, I, rfl, q⟩
end
end L2

set_option Elab.async false
set_option linter.all false
set_option maxRecDepth 100000
set_option maxHeartbeats 4000000
namespace L2
open PySem PySem.Spec PyProof.Rows
structure Stp (S fr : List Addr) (h h' : Heap) : Prop where
  keep : ∀ b o, h.get? b = some o → b ∉ S → b ∉ fr → h'.get? b = some o
  slot : ∀ b o, h.get? b = some o → b ∈ fr → ∃ sl, h'.get? b = some { o with slots := sl }
section
variable {M : Model} {A : Around} {E : Value → Shared → Prop} {s : Shared} {base : Heap} {env : Env} {outer : List Env} {L e : Addr} {oe : Obj} {vs : Array Value} {Q : Unit → Shared → Prop}
structure Entry (h : Heap) (T : Addr) (v : Value) : Prop where
  ex : ∃ oT ts, h.get? T = some oT ∧ oT.data = .fields ts ∧ ts[3]? = some v
theorem entryX {head : Value} {hadNext : Bool} (hfr : A.frames = some (env :: outer)) (hl : s.heap.FunFrames base (env :: outer)) (hf : env.frame = some L) (he : s.heap.get? e = some oe) (hd : oe.data = .fields vs) (hsz : 1 < vs.size)
    (h : ∀ h' T, Stp [e] (frs (env :: outer)) s.heap h' → s.heap.get? T = none → h'.get? e = some (oe.mapFields (·.setIfInBounds 1 (.ref T))) → Entry h' T (rawInt L) → Q () { s with heap := h' }) :
    wpAny M A (do let a ← frameOf env; let pl ← entryPlaceOf L hadNext; let b ← EntryCells.newEntry head a .none (rawInt L) .none pl; setField (.ref e) 1 b) Q E s := by
  have hene : e ∉ (env :: outer).filterMap (·.frame) := fun hm => by
    obtain ⟨_, o, ho, hnf⟩ := hl.mem hm
    rw [he] at ho
    cases ho
    exact hnf vs hd
  refine wpAny_bind (wpAny_frameOf_fun hfr hl hf fun h₁ hs₁ => ?_)
  refine wpAny_bind (wpAny_entryPlaceOf fun pl hpl => ?_)
  unfold EntryCells.newEntry newFields
  refine wpAny_bind (wpAny_newObj_type ?_ (hpl.sizeOk5 _ _ _ _ _))
  have he₁ : h₁.get? e = some oe := (hs₁.2.1 e hene).trans he
  obtain ⟨oT, hoT⟩ : ∃ oT : Obj, oT = { cls := .type "traceback", dict := none, data := .fields ([head, .ref L, .none, rawInt L, .none] ++ (if pl.isEmpty then List.replicate 6 Value.none else pl)).toArray } := ⟨_, rfl⟩
  rw [← hoT]
  have he₂ := Heap.get?_push_of_some (h := h₁) oT he₁
  refine wpAny_setField he₂ hd hsz (h _ h₁.objs.size ⟨fun b o q hS hfr' => ?_, fun b o q hb => ?_⟩ ?_ ?_ ⟨oT, _, ?_, by rw [hoT], ?_⟩)
  · rw [Heap.get?_update_other _ _ (fun z => hS (by rw [← z]; simp))]
    exact Heap.get?_push_of_some _ ((hs₁.2.1 b hfr').trans q)
  · obtain ⟨sl, z⟩ := hs₁.2.2 b o q
    refine ⟨sl, ?_⟩
    rw [Heap.get?_update_other _ _ (fun z => hene (by rw [z]; exact hb))]
    exact Heap.get?_push_of_some _ z
  · exact Heap.get?_none_of_le (by rw [hs₁.1]; exact Nat.le_refl _)
  · exact Heap.get?_update_self _ he₂ (Obj.isFreed_of_fields (Obj.data_mapFields hd _))
  · rw [Heap.get?_update_other _ _ (Nat.ne_of_lt (Heap.lt_size he₁))]
    exact Heap.get?_push_size h₁ (by rw [hoT]; rfl)
  · simp
theorem landX {T : Addr} {v : Value} (he : s.heap.get? e = some oe) (hd : oe.data = .fields vs) (h1 : vs[1]? = some (.ref T)) (hT : Entry s.heap T v)
    (h : ∀ h', (∀ b, b ≠ T → h'.get? b = s.heap.get? b) → Entry h' T .none → Q () { s with heap := h' }) : wpAny M A (setFlight (.ref e) none) Q E s := by
  obtain ⟨oT, ts, g1, g2, g3⟩ := hT.ex
  have hsz : 3 < ts.size := (Array.getElem?_eq_some_iff.mp g3).1
  unfold setFlight
  refine wpAny_bind (wpAny_field he hd h1 ?_)
  rw [if_pos (show (Value.ref T != Value.none) = true from by simp)]
  refine wpAny_setField g1 g2 hsz (h _ (fun b hb => Heap.get?_update_other _ _ (Ne.symm hb)) ⟨_, _, Heap.get?_update_self _ g1 (Obj.isFreed_of_fields (Obj.data_mapFields g2 _)), Obj.data_mapFields g2 _, ?_⟩)
  simp [hsz]
theorem noteX {S : List Addr} (hfr : A.frames = some (env :: outer)) (hl : s.heap.FunFrames base (env :: outer)) (hf : env.frame = some L) (he : s.heap.get? e = some oe) (hd : oe.data = .fields vs) (hsz : 1 < vs.size)
    (hc : (vs[1]? = some .none ∧ S = []) ∨ ∃ T0, vs[1]? = some (.ref T0) ∧ T0 ≠ e ∧ Entry s.heap T0 .none ∧ S = [T0])
    (h : ∀ h' T, Stp (e :: S) (frs (env :: outer)) s.heap h' → s.heap.get? T = none → h'.get? e = some (oe.mapFields (·.setIfInBounds 1 (.ref T))) → Entry h' T (rawInt L) → Q () { s with heap := h' }) :
    wpAny M A (noteFrame (.ref e) env) Q E s := by
  unfold noteFrame
  simp only [hf]
  rcases hc with ⟨h1, rfl⟩ | ⟨T0, h1, ne, hT, rfl⟩
  · refine wpAny_bind (wpAny_field he hd h1 ?_)
    rw [if_neg (by decide)]
    exact entryX hfr hl hf he hd hsz h
  · obtain ⟨oT, ts, g1, g2, g3⟩ := hT.ex
    refine wpAny_bind (wpAny_field he hd h1 ?_)
    rw [if_pos (show (Value.ref T0 != Value.none) = true from by simp)]
    refine wpAny_bind (wpAny_field g1 g2 g3 ?_)
    rw [if_neg (show ¬ ((Value.none == rawInt L) = true) from by simp [rawInt])]
    refine wpAny_bind (wpAny_setField g1 g2 (Array.getElem?_eq_some_iff.mp g3).1 ?_)
    have other : ∀ b, b ≠ T0 → (s.heap.update T0 (Obj.mapFields (·.setIfInBounds 3 Value.none))).get? b = s.heap.get? b := fun b hb => Heap.get?_update_other _ _ (Ne.symm hb)
    have noF : ∀ b o, s.heap.get? b = some o → (∀ vs, o.data ≠ .fields vs) → b ≠ T0 := fun b o hb hnf q => by
      rw [q, g1] at hb
      cases hb
      exact hnf ts g2
    refine entryX (s := { s with heap := s.heap.update T0 (Obj.mapFields (·.setIfInBounds 3 Value.none)) }) hfr (hl.of_keeps fun b o hb hnf => ⟨o, (other b (noF b o hb hnf)).trans hb, rfl⟩) hf ((other e (Ne.symm ne)).trans he) hd hsz fun h' T st n1 n2 n3 => ?_
    refine h h' T ⟨fun b o q hS hfr' => ?_, fun b o q hb => ?_⟩ ?_ n2 n3
    · have hb : b ≠ T0 := fun z => hS (by rw [z]; simp)
      exact st.keep b o ((other b hb).trans q) (fun z => hS (by rw [List.mem_singleton.mp z]; simp)) hfr'
    · obtain ⟨_, o', z, nf⟩ := hl.mem hb
      rw [q] at z
      cases z
      exact st.slot b o ((other b (noF b o q nf)).trans q) hb
    · cases z : s.heap.get? T with
      | none => rfl
      | some o =>
        by_cases hz : T = T0
        · rw [hz, Heap.get?_update_self _ g1 (Obj.isFreed_of_fields (Obj.data_mapFields g2 _))] at n1
          cases n1
        · rw [other T hz, z] at n1
          cases n1
theorem leaveX {S : List Addr} (hfr : A.frames = some (env :: outer)) (hl : s.heap.FunFrames base (env :: outer)) (hf : env.frame = some L) (he : s.heap.get? e = some oe) (hd : oe.data = .fields vs) (hsz : 1 < vs.size)
    (hc : (vs[1]? = some .none ∧ S = []) ∨ ∃ T0, vs[1]? = some (.ref T0) ∧ T0 ≠ e ∧ Entry s.heap T0 .none ∧ S = [T0])
    (h : ∀ h' T, Stp (e :: S) (frs (env :: outer)) s.heap h' → s.heap.get? T = none → h'.get? e = some (oe.mapFields (·.setIfInBounds 1 (.ref T))) → Entry h' T .none → Q () { s with heap := h' }) :
    wpAny M A (leaving env (.ref e)) Q E s := by
  unfold leaving
  refine wpAny_bind (noteX hfr hl hf he hd hsz hc fun h1 T st n1 n2 n3 => ?_)
  have hTe : e ≠ T := fun z => by rw [← z, he] at n1; cases n1
  refine landX (s := { s with heap := h1 }) n2 (Obj.data_mapFields hd _) (T := T) (by simp [hsz]) n3 fun h2 k1 k2 => ?_
  refine h h2 T ⟨fun b o q hS hfr' => ?_, fun b o q hb => ?_⟩ n1 ((k1 e hTe).trans n2) k2
  · exact (k1 b (fun z => by rw [z, n1] at q; cases q)).trans (st.keep b o q hS hfr')
  · obtain ⟨sl, z⟩ := st.slot b o q hb
    exact ⟨sl, (k1 b (fun z => by rw [z, n1] at q; cases q)).trans z⟩
end
end L2

set_option Elab.async false
set_option linter.all false
set_option maxRecDepth 100000
set_option maxHeartbeats 4000000
namespace L2
open PySem PySem.Spec PyProof.Rows
section
variable {P : Program} {w : World} {H H' : Hp} {h h' h0 : Heap} {a e T C : Addr} {o : HO}
theorem ObjOk.some (x : ObjOk P w H h a o) : ∃ u, h.get? a = some u := by
  cases o with
  | lst xs => obtain ⟨_, _, _, _, e⟩ := x; exact ⟨_, e⟩
  | tup xs => obtain ⟨_, _, _, ob, e, _⟩ := x; exact ⟨_, e⟩
  | dK kvs => obtain ⟨_, _, _, _, o, _, _, e, _⟩ := x; exact ⟨_, e⟩
  | dT kvs => obtain ⟨_, _, _, _, o, _, _, e, _⟩ := x; exact ⟨_, e⟩
  | set S n => obtain ⟨o, _, _, _, e, _⟩ := x; exact ⟨_, e⟩
  | ins C dx fs => obtain ⟨_, _, _, e, _⟩ := x; exact ⟨_, e⟩
  | own y => obtain ⟨_, e⟩ := x; exact ⟨_, e⟩
  | xd fs => obtain ⟨_, ⟨_, _, _, e, _⟩, _⟩ := x; exact ⟨_, e⟩
  | rng lo hi => obtain ⟨_, _, _, e⟩ := x; exact ⟨_, e⟩
  | frz ob u => obtain ⟨e, _⟩ := x; exact ⟨_, e⟩
  | tbl ps => exact ⟨_, (show h.get? a = some _ from x)⟩
  | met f y => exact ⟨_, (show h.get? a = some _ from x)⟩
  | ext φ => obtain ⟨_, ⟨_, e⟩, _⟩ := x; exact ⟨_, e⟩
theorem HOk.none_of (x : HOk P w H h) (n : h.get? a = none) : H a = none := by
  cases q : H a with
  | none => rfl
  | some u =>
    obtain ⟨ob, e⟩ := (x a u q).some
    rw [n] at e
    cases e
theorem Un.stp {fs S fr : List Addr} (u : Un fs [] H H' h0 h) (t : Stp S fr h h') (hS : ∀ b ∈ S, h0.get? b = none) (hf : ∀ b ∈ fr, b ∈ fs ∨ h0.get? b = none) : Un fs [] H H' h0 h' := by
  have nS : ∀ {b o}, h0.get? b = some o → b ∉ S := fun q z => by rw [hS _ z] at q; cases q
  refine ⟨fun b o q n hb hx => ?_, fun b o q n hb hx => ?_, u.free, fun b o q hx => ?_, u.tups, u.frzs, u.tbls⟩
  · refine t.keep b o (u.keep b o q n hb hx) (nS q) fun z => ?_
    rcases hf b z with z | z
    · exact hb z
    · rw [z] at q; cases q
  · obtain ⟨sl, e⟩ := u.slot b o q n hb hx
    by_cases hz : b ∈ fr
    · obtain ⟨sl', e'⟩ := t.slot b _ e hz
      exact ⟨sl', e'⟩
    · exact ⟨sl, t.keep b _ e (nS q) hz⟩
  · obtain ⟨o', e⟩ := u.there b o q hx
    by_cases hz : b ∈ fr
    · obtain ⟨sl', e'⟩ := t.slot b _ e hz
      exact ⟨_, e'⟩
    · exact ⟨o', t.keep b _ e (nS q) hz⟩
theorem HOk.stp {S fr : List Addr} (x : HOk P w H h) (t : Stp S fr h h') (hS : ∀ b ∈ S, H b = none) (hf : ∀ b ∈ fr, H b = none) : HOk P w H h' := fun a o q =>
  (x a o q).stay (fun b u hb e => t.keep b u e
    (fun z => hb.elim (fun e => by subst e; rw [hS _ z] at q; cases q) fun hb => by rw [hS _ z] at hb; cases hb)
    (fun z => hb.elim (fun e => by subst e; rw [hf _ z] at q; cases q) fun hb => by rw [hf _ z] at hb; cases hb)) (fun _ q => q) fun _ _ q => q
end
section
variable {X : Cx} {pins : List (Addr × Obj)} {σ : St} {H : Hp} {s s' : Shared} {E : XK} {e : Value}
end
end L2
namespace L2
open PySem PySem.Spec PyProof.Rows
section
variable {P : Program} {w : World} {K : PySem.W.Frag} {mg : Str → Option Value} {base : Heap}
end
def excObjB (K : PySem.W.Frag) (C : Addr) (bmB : List Value) (newId : String) (o : Obj) : Bool := match o.data with
  | .cls cd => o.cls == .type "type" && (cd.mro.head? == some (.ref C) && (PySem.W.tailIn K bmB cd.mro.tail && (o.slots.size == 6 && (o.slots[4]? == some (some (.builtin newId)) && (!cd.hasDel && (PySem.W.nsOkIn K cd.ns && PySem.W.nsIn K cd.ns "__init__" == some none))))))
  | _ => false
def excInB (K : PySem.W.Frag) (C : Addr) (bmB : List Value) (newId : String) : Bool := (K.lookup C).any (excObjB K C bmB newId)
theorem list6 {α : Type} {l : List α} (h : l.length = 6) : ∃ a b c d e f, l = [a, b, c, d, e, f] := by
  cases l with
  | nil => cases h
  | cons a l =>
  cases l with
  | nil => cases h
  | cons b l =>
  cases l with
  | nil => cases h
  | cons c l =>
  cases l with
  | nil => cases h
  | cons d l =>
  cases l with
  | nil => cases h
  | cons e l =>
  cases l with
  | nil => cases h
  | cons f l =>
  cases l with
  | nil => exact ⟨a, b, c, d, e, f, rfl⟩
  | cons _ _ => cases h
section
variable {X : Cx}
end
end L2
namespace L2
open PySem PySem.Spec PyProof.Rows
def subIn (K : PySem.W.Frag) (C D : Addr) : Bool := match K.lookup C with
  | some ⟨_, _, .cls cd, _⟩ => cd.mro.contains (.ref D)
  | _ => false
section
variable {M : Model} {A : Around} {E : Value → Shared → Prop}
theorem excMatches_own {nm q : Str} {C N : Addr} {bs bm : List Value} {hdct : Bool} {sn : List Str} {sub : List Value} {ab : Bool} {col : Option Bool} {dd : Option Addr} {k0 k1 k2 k3 k5 : Option Value} {newId : String}
    {nm' q' : Str} {C' N' : Addr} {bs' bm' : List Value} {hdct' : Bool} {sn' : List Str} {sub' : List Value} {ab' : Bool} {col' : Option Bool} {dd' : Option Addr} {k0' k1' k2' k3' k5' : Option Value} {newId' : String}
    {h : Heap} {g : Array GenState} {d : Drawn} {t : Nat} {os : OsState} {e : Addr} {oe : Obj} {b : Bool} {Q : Bool → Shared → Prop}
    (hC : h.get? C = some (excClassObj nm q C N bs bm hdct sn sub ab col dd k0 k1 k2 k3 k5 newId)) (hD : h.get? C' = some (excClassObj nm' q' C' N' bs' bm' hdct' sn' sub' ab' col' dd' k0' k1' k2' k3' k5' newId'))
    (he : h.get? e = some oe) (hcls : oe.cls = .ref C) (hbase : bm'.contains (.type "BaseException") = true) (hb : (Value.ref C :: bm).contains (.ref C') = b)
    (hq : Q b ⟨h, g, d, t, os⟩) : wpAny M A (excMatches (.ref e) (.ref C')) Q E ⟨h, g, d, t, os⟩ := by
  have hcB : (Value.ref C' :: bm').contains (.type "BaseException") = true := by rw [List.contains_cons, hbase, Bool.or_true]
  have f := tc_notTuple
  unfold excMatches
  cases b <;> (repeat (first | (with_reducible refine wpAny_loadPart_at he ?_; rw [hcls]) | with_reducible refine wpAny_loadPart_at hD ?_ | (with_reducible refine wpAny_isSubtype_exc hD ?_; rw [hcB]) | (with_reducible refine wpAny_isSubtype_exc hC ?_; rw [hb]) | wp_step)) <;> exact hq
end
abbrev Cx.held (X : Cx) (e : Value) : Cx := { X with A := X.A.mark (some e), calm := false, xe := fun _ _ => False }
section
variable {X : Cx} {pins : List (Addr × Obj)} {σ : St} {H : Hp} {s s' : Shared} {E : XK} {e : Value}
theorem Inv.held (I : Inv X pins σ H s) (e : Value) : Inv (X.held e) pins σ H s :=
  ⟨⟨I.ok.mod, I.ok.kind, I.ok.glob, I.ok.blt, I.ok.above, I.ok.inj, I.ok.has, I.ok.cab, (fun z => nomatch z), I.ok.frames, I.ok.stk, I.ok.exf, I.ok.bs, I.ok.bsz, I.ok.noex, I.ok.exfs, I.ok.funs, I.ok.frf⟩,
    I.os, I.bare, I.base, I.loc, I.cell, I.free, I.freeC, I.pin, I.hok, I.len⟩
theorem Inv.unheld (ok : X.Ok) (I : Inv (X.held e) pins σ H s) : Inv X pins σ H s := ⟨ok, I.os, I.bare, I.base, I.loc, I.cell, I.free, I.freeC, I.pin, I.hok, I.len⟩
end
end L2
namespace L2
open PySem PySem.Spec PyProof.Rows
section
variable {X : Cx} {CX : CXT} {k : Nat} {f C Dd : Addr} {fd : FuncData} {ps : List Str} {sp : Sp} {x y n : Str} {p pos hp yp tp cp : Pos} {e0 : Expr} {es : List Expr} {ta : TA} {bmC bmD : List Value} {nC nD : String} {b0 : Stmt} {suite : List Stmt} {ts : TS}
end
end L2
namespace L2
open PySem PySem.Spec PyProof.Rows
abbrev Cx.heldP (X : Cx) (ea : Addr) (oe : Obj) : Cx := { X with A := X.A.mark (some (.ref ea)), calm := false, xe := fun _ _ => False, pn := (ea, oe) :: X.pn }
section
variable {X : Cx} {pins : List (Addr × Obj)} {σ : St} {H : Hp} {s s' : Shared} {E : XK} {e : Value} {ea : Addr} {oe : Obj}
theorem Inv.heldP (I : Inv X pins σ H s) (h1 : s.heap.get? ea = some oe) (h2 : H ea = none) (h3 : ea ≠ X.env.locals) (h4 : ea ∉ X.fs) (h5 : ∀ v, oe.data ≠ .cell v) : Inv (X.heldP ea oe) pins σ H s :=
  ⟨⟨I.ok.mod, I.ok.kind, I.ok.glob, I.ok.blt, I.ok.above, I.ok.inj, I.ok.has, I.ok.cab, (fun z => nomatch z), I.ok.frames, I.ok.stk, I.ok.exf, I.ok.bs, I.ok.bsz, I.ok.noex, I.ok.exfs, I.ok.funs, I.ok.frf⟩,
    I.os, I.bare, I.base, I.loc, I.cell, I.free, I.freeC, fun p hp => (List.mem_cons.mp hp).elim (fun z => by rw [z]; exact ⟨h1, h2, h3, h4, h5⟩) (fun z => I.pin p z), I.hok, I.len⟩
theorem Inv.unheldP (ok : X.Ok) (I : Inv (X.heldP ea oe) pins σ H s) : Inv X pins σ H s := ⟨ok, I.os, I.bare, I.base, I.loc, I.cell, I.free, I.freeC, fun p hp => I.pin p (List.mem_cons_of_mem _ hp), I.hok, I.len⟩
end
section
variable {X : Cx} {k i : Nat} {f C Dd : Addr} {fd : FuncData} {ps : List Str} {sp : Sp} {x y n : Str} {p pos hp yp tp cp : Pos} {e0 : Expr} {es : List Expr} {ta : TA} {bmC bmD : List Value} {nC nD : String} {b0 : Stmt} {suite : List Stmt} {ts : Addr → TS}
def Ends.only (D : Ends) : Ends := { nx := fun _ _ => False, rt := D.rt }
end
end L2
namespace L2
open PySem PySem.Spec PyProof.Rows
section
variable {X : Cx} {k i j : Nat} {f C Dd : Addr} {fd : FuncData} {ps : List Str} {sp : Sp} {x y n z : Str} {p pos hp yp tp cp zp : Pos} {e0 : Expr} {es : List Expr} {ta : TA} {bmC bmD : List Value} {nC nD : String} {b0 : Stmt} {suite : List Stmt} {ts : TS} {tx : Addr → TS}
end
section
variable {K : PySem.W.Frag} {x D : Addr} {ox : Obj}
abbrev bmV : List Value := [.type "ValueError", .type "Exception", .type "BaseException", .type "object"]
theorem kd1 : builtinKind "BaseException.__getattribute__" = some Manifest.AttrKind.slot := by kernel_rfl
theorem kd2 : splitId "BaseException.__getattribute__" = some ("BaseException", "__getattribute__") := by kernel_rfl
theorem kd3 : bmV.contains (.type "BaseException") = true := by decide
variable {X : Cx} {ea C : Addr} {oe : Obj}
end
section
variable {P : Program} {w : World} {K : PySem.W.Frag} {mg : Str → Option Value} {base : Heap}
end
end L2
namespace L2
open PySem PySem.Spec PyProof.Rows
end L2
namespace L2
open PySem
end L2
namespace L2
open PySem PySem.Spec PyProof.Rows
theorem b_ValueError : bootBuiltins "ValueError" = some (.type "ValueError") := by decide +kernel
end L2

set_option Elab.async false
set_option linter.all false
set_option maxRecDepth 100000
set_option maxHeartbeats 4000000
namespace L2
open PySem PySem.Spec PyProof.Rows
structure RoomN (k : Nat) (A : Around) : Prop where
  dp : A.depth + 3 * k + 5 < recursionLimit
  un : A.units + 16 * k + 200 < cLine
  gd : A.guards = some []
abbrev calmed (A : Around) : Around := { A with handled := none }
theorem RoomN.deeper {k : Nat} {A : Around} (r : RoomN (k + 1) A) (env : Env) : RoomN k (A.deeper env) :=
  ⟨by have := r.dp; show A.depth + 1 + 3 * k + 5 < _; omega, by have := r.un; show A.units + 3 + 16 * k + 200 < _; omega, r.gd⟩
structure FnOkN (P : Program) (w : World) (K : PySem.W.Frag) (mg : Str → Option Value) (base : Heap) (CX : CXT) (k : Nat) (f : Addr) (fd : FuncData) (ps : List Str) (sp : Sp) : Prop where
  len : ∀ vs H Q E, sp vs H Q E → vs.length = ps.length
  run : ∀ (A : Around) (outer : List Env) (s : Shared) (H : Hp) (args : Args) (us : List Value) (vs : List V) (Q : VK) (E : XK), RoomN k A → Env0 P w K mg base A outer s H → BindsTo s fd args (ps.zip us) → Vals vs us → sp vs H Q E →
    codeAny (model P w) A (.call (.ref f) args) (CR CX outer P w H s Q E) s
abbrev cxN (CX : CXT) (P : Program) (w : World) (K : PySem.W.Frag) (mg : Str → Option Value) (base : Heap) (N : List Str) (qual : Str) (scope : Scope) (f : Addr) (cd : Value) (A : Around) (outer : List Env) (s : Shared) (H : Hp) (E : XK) : Cx :=
  { cxOf CX P w K mg base N qual scope f cd A outer s H E with calm := false }
theorem Env0.held {P : Program} {w : World} {K : PySem.W.Frag} {mg : Str → Option Value} {base : Heap} {A : Around} {outer : List Env} {s : Shared} {H : Hp} (e : Env0 P w K mg base A outer s H) (u : Unit) : Env0 P w K mg base (calmed A) outer s H :=
  ⟨e.frames, e.mod, e.bs, e.bsz, e.funs, e.frf, e.hok, e.bare⟩
theorem fn_ofN {CX : CXT} {P : Program} {w : World} {K : PySem.W.Frag} {mg : Str → Option Value} {base : Heap} {k : Nat} {f : Addr} {name qual : Str} {params : Arguments} {body : List Stmt} {scope : Scope} {dV kV doc pm cdv ct oc : Value} {an od : Option Addr}
    {osl : Array (Option Value)} {N ps : List Str} {sp : Sp} (lk : K.lookup f = some ⟨oc, od, .func (PySem.W.fnOf name qual params body scope dV kV doc pm an cdv ct), osl⟩) (hcd : PySem.W.codeIn K cdv qual = true) (S : FnScope N ps scope)
    (len : ∀ vs H Q E, sp vs H Q E → vs.length = ps.length)
    (hbody : ∀ (A : Around) (outer : List Env) (s : Shared) (H : Hp) (vs : List V) (Q : VK) (E : XK), RoomN k (A.deeper (envOfC qual scope s.heap.objs.size f cdv)) → sp vs H Q E →
      ∃ t, PSs (cxN CX P w K mg base N qual scope f cdv A outer s H E) body t ∧ t { nx := fun _ H' => Q .non H', rt := Q } (start N vs) H) :
    FnOkN P w K mg base CX (k + 1) f (PySem.W.fnOf name qual params body scope dV kV doc pm an cdv ct) ps sp := by
  refine ⟨len, fun A outer s H args us vs Q E hr e0 hb r hsp => ?_⟩
  have hl := len _ _ _ _ hsp
  have KX : K.In s.heap := e0.mod.kin.keeps fun b o e => (e0.bs b o e).1
  have lim : s.heap.NoLimit := e0.mod.nolimit.keeps fun b o e => (e0.bs b o e).1
  have hkind : ∀ y ∈ ps.zip us, scope.names.lookup y.1 = some .local ∨ (scope.names.lookup y.1 = some .cell ∧ ((cellsFrom (s.heap.objs.size + 1) scope.names []).lookup y.1).isSome = true) := fun ⟨n, v⟩ hy => by
    rcases S.par n (List.of_mem_zip hy).1 with q | q
    · exact .inl q
    · exact .inr ⟨q, PySem.W.cellsFrom_some _ _ _ (.inl q)⟩
  refine codeAny_call_function (show A.depth < recursionLimit by have := hr.dp; omega) (KX _ _ lk) rfl S.co S.gen rfl (PySem.W.codeRec_of KX hcd) (hb _ _ _ _ ?_)
  refine wpAny_newFunctionEnv_cells S.kind hkind fun env he s1 x => ?_
  subst he
  refine ⟨lim.keeps x.toInCall.keep, codeAny_func ?_⟩
  obtain ⟨t, ht, hq⟩ := hbody A outer s H vs Q E (hr.deeper _) hsp
  have I0 : Inv (cxOf CX P w K mg base N qual scope f cdv (calmed A) outer s H E) [] (start N vs) H s1 := inv_start S rfl (e0.held ()) hl r x
  have I : Inv (cxN CX P w K mg base N qual scope f cdv A outer s H E) [] (start N vs) H s1 :=
    ⟨⟨I0.ok.mod, I0.ok.kind, I0.ok.glob, I0.ok.blt, I0.ok.above, I0.ok.inj, I0.ok.has, I0.ok.cab, (fun z => nomatch z), Around.frames_deeper e0.frames, I0.ok.stk, I0.ok.exf, I0.ok.bs, I0.ok.bsz, I0.ok.noex, I0.ok.exfs, I0.ok.funs, I0.ok.frf⟩,
      I0.os, I0.bare, I0.base, I0.loc, I0.cell, I0.free, I0.freeC, I0.pin, I0.hok, I0.len⟩
  refine wpAny_mono (ht [] s1 (start N vs) H _ I hq) (fun fl s' hs => ?_) fun e s' hs => hs
  have fin : ∀ {σ' : St} {H' : Hp} {v : V} {u : Value}, Inv (cxN CX P w K mg base N qual scope f cdv A outer s H E) [] σ' H' s' → RelV v u → Q v H' → CE outer P w H s Q u s' :=
    fun {σ' H' v u} J rv q => ⟨v, H', J.os, J.bare, J.base, J.hok, rv, q⟩
  cases fl with
  | ret u =>
    obtain ⟨v, σ', H', J, rv, q⟩ := hs
    exact fin J rv q
  | next =>
    obtain ⟨σ', H', J, q⟩ := hs
    exact fin (v := V.non) (u := Value.none) J rfl q
  | brk =>
    obtain ⟨_, _, _, q⟩ := hs
    exact False.elim q
  | cont =>
    obtain ⟨_, _, _, q⟩ := hs
    exact False.elim q
section
variable {P : Program} {w : World} {K : PySem.W.Frag} {mg : Str → Option Value} {base : Heap}
theorem Fun.okN {x qual : Str} {st : Stmt} {f : Addr} {fd : FuncData} {N ps : List Str} {k : Nat} {sp : Sp} (F : Fun K x qual st f fd) (S : FnScope N ps (defScope st)) (len : ∀ vs H Q E, sp vs H Q E → vs.length = ps.length)
    (hbody : ∀ (cdv : Value) (A : Around) (outer : List Env) (s : Shared) (H : Hp) (vs : List V) (Q : VK) (E : XK), RoomN k (A.deeper (envOfC qual (defScope st) s.heap.objs.size f cdv)) → sp vs H Q E →
      ∃ t, PSs (cxN CX0 P w K mg base N qual (defScope st) f cdv A outer s H E).nox (defBody st) t ∧ t { nx := fun _ H' => Q .non H', rt := Q } (start N vs) H) : FnOkN P w K mg base CX0 (k + 1) f fd ps sp := by
  obtain ⟨oc, od, kV, doc, pm, an, cdv, ct, osl, rfl, lk, hcd⟩ := F.ex
  refine fn_ofN lk hcd S len fun A outer s H vs Q E hr hsp => ?_
  obtain ⟨t, h, q⟩ := hbody cdv A outer s H vs Q E hr hsp
  exact ⟨t, h.nox, q⟩
end
section
variable {X : Cx} {CX : CXT} {k : Nat} {f : Addr} {fd : FuncData} {ps : List Str} {ds : List Value} {dvs : List V} {sp : Sp} {E : XK} {x : Str} {p pos : Pos} {e : Expr} {es : List Expr} {t : TA}
end
section
variable {X : Cx} {pins : List (Addr × Obj)} {σ : St} {H : Hp} {s : Shared} {ea C : Addr} {oe : Obj}
end
section
variable {X : Cx} {k i j : Nat} {f C Dd : Addr} {fd : FuncData} {ps : List Str} {sp : Sp} {x y n z : Str} {p pos hp yp tp cp zp : Pos} {e0 : Expr} {es : List Expr} {ta : TA} {bmC bmD : List Value} {nC nD : String} {b0 : Stmt} {suite : List Stmt} {tx : TS}
end
end L2
namespace L2
open PySem PySem.Spec PyProof.Rows
end L2
namespace L2
open PySem PySem.Spec PyProof.Rows
end L2
namespace L2
open PySem PySem.Spec PyProof.Rows
end L2
namespace L2
open PySem PySem.Spec PyProof.Rows
end L2

set_option Elab.async false
set_option linter.all false
set_option maxRecDepth 100000
set_option maxHeartbeats 4000000
namespace L2
open PySem PySem.Spec PyProof.Rows
section
variable {prg : Program} {wd : World} {Ar : Around} {Ex : Value → Shared → Prop} {hp : Heap} {gn : Array GenState} {dr : Drawn} {tk : Nat} {sy : OsState}
variable {nm qn : Str} {C N : Addr} {bs tl bmB : List Value} {hdc : Bool} {sn : List Str} {sb : List Value} {ab : Bool} {cl : Option Bool} {dd : Option Addr} {k0 k1 k2 k3 k5 : Option Value} {B newId initId : String}
abbrev rawExc (C t : Addr) : Obj := { cls := .ref C, data := .fields #[.ref t, .none, .none, .none, .bool false, .none] }
theorem type_call_own (F : ExcBaseFacts B newId initId bmB) (T : OwnTail hp bmB tl) {mN : Str → Option Value} {rest : List Value} {fI : Addr} {oI : Obj} {Q : Fin → Shared → Prop}
    (hC : hp.get? C = some (excClassObj nm qn C N bs tl hdc sn sb ab cl dd k0 k1 k2 k3 k5 newId)) (hn : hp.Ns N mN) (hi : mN "__init__" = some (.ref fI)) (hf : hp.get? fI = some oI) (hc : oI.cls = .type "function") (hz : rest.length ≤ sizeLine)
    (hq : ∀ h' e, Heap.MadeExcOf hp h' e (.ref C) rest → wpAny (model prg wd) Ar (call (.ref fI) (.ref e :: rest)) (fun r s' => r = .none ∧ Q (.done (.ret (.ref e))) s') Ex ⟨h', gn, dr, tk, sy⟩) :
    wpAny (model prg wd) Ar (Builtin.«type.__call__» ⟨.ref C :: rest, []⟩) Q Ex ⟨hp, gn, dr, tk, sy⟩ := by
  repeat (first | with_reducible refine wpAny_loadPart_at hC ?_ | with_reducible refine wpAny_madeBy_exc hC ?_ | wp_step)
  refine codeAny_call_builtin_code (Code.quiet_builtin _ F.quiet) (wpAny_check_new_subT F T hC ?_)
  refine codeAny_exc_new_subT F T hC ?_ hz
  show wpAny _ _ _ _ _ _
  obtain ⟨h1, eh1⟩ : ∃ h1, h1 = (hp.push { cls := .type "tuple", data := .seq rest.toArray }).push (rawExc C hp.objs.size) := ⟨_, rfl⟩
  have kp : ∀ b o, hp.get? b = some o → h1.get? b = some o := fun b o e => by rw [eh1]; exact Heap.get?_push_of_some _ (Heap.get?_push_of_some _ e)
  have hg : h1.get? (hp.objs.size + 1) = some (rawExc C hp.objs.size) := by rw [eh1]; heap_get
  have ht : h1.get? hp.objs.size = some { cls := .type "tuple", data := .seq rest.toArray } := by rw [eh1]; exact Heap.get?_push_of_some _ (Heap.get?_push_at rfl rfl)
  rw [← eh1]
  have hC1 := kp _ _ hC
  have hn1 : h1.Ns N mN := let ⟨o, es, ep, e, r⟩ := hn; ⟨o, es, ep, kp _ _ e, r⟩
  have T1 := T.keeps kp
  have hcC : (Value.ref C :: tl).contains (.ref C) = true := by simp
  unfold isInstance
  repeat (first | with_reducible refine wpAny_loadPart_at hg ?_ | (with_reducible refine wpAny_isSubtype_exc hC1 ?_; rw [hcC]) | wp_step)
  show wpAny _ _ (typeLookup (.ref C) _) _ _ _
  refine wpAny_typeLookup_tail hC1 hn1 T1 F.mroIs F.init.lookup ?_
  rw [hi]
  refine wpAny_holding (wpAny_bind ?_)
  unfold bindSpecial
  refine wpAny_bind (wpAny_typeOf (T := "function") ⟨_, kp _ _ hf, hc⟩ ?_)
  rw [if_pos (by decide)]
  refine wpAny_pure (wpAny_bind (wpAny_mono (hq h1 (hp.objs.size + 1) ⟨kp, Heap.get?_none_of_le (Nat.le_succ _), hp.objs.size, hg, Heap.get?_none_of_le (Nat.le_refl _), ht⟩) (fun r s' hr => ?_) fun _ _ x => x))
  obtain ⟨rfl, hQ⟩ := hr
  wp_walk
  exact hQ
theorem call_own (F : ExcBaseFacts B newId initId bmB) (T : OwnTail hp bmB tl) {mN : Str → Option Value} {rest : List Value} {fI : Addr} {oI : Obj} {Q : Value → Shared → Prop}
    (hC : hp.get? C = some (excClassObj nm qn C N bs tl hdc sn sb ab cl dd k0 k1 k2 k3 k5 newId)) (hn : hp.Ns N mN) (hi : mN "__init__" = some (.ref fI)) (hf : hp.get? fI = some oI) (hc : oI.cls = .type "function") (hz : rest.length ≤ sizeLine)
    (hq : ∀ h' e, Heap.MadeExcOf hp h' e (.ref C) rest → wpAny (model prg wd) (Ar.under (.builtin "type.__call__" ⟨.ref C :: rest, []⟩)) (call (.ref fI) (.ref e :: rest)) (fun r s' => r = .none ∧ Q (.ref e) s') Ex ⟨h', gn, dr, tk, sy⟩) :
    wpAny (model prg wd) Ar (call (.ref C) rest) Q Ex ⟨hp, gn, dr, tk, sy⟩ := by
  have f1 := tc_lookup
  have f2 := tc_bind (.ref C)
  have hT : (⟨hp, gn, dr, tk, sy⟩ : Shared).TypeIs (.ref C) "type" := ⟨_, hC, rfl⟩
  refine wpAny_call (codeAny_of_tree ?_)
  show wpAny _ _ (callAny (.ref C) _) _ _ _
  repeat (any_goals (first | assumption | with_reducible refine wpAny_loadPart_at hC ?_ | wp_step))
  refine ⟨rfl, ?_⟩
  exact codeAny_call_builtin_at (Code.quiet_builtin _ (by decide +kernel)) entry_typeCall (wpAny_check_type_call_sub hC (type_call_own F T hC hn hi hf hc hz fun h' e hm => hq h' e hm))
end
end L2
namespace L2
open PySem PySem.Spec PyProof.Rows PySem.W PySem.Builtin PySem.Builtin.ObjectAttr
def overV : List Value → Bool
  | .ref _ :: r => overV r
  | l => l == bmV
theorem refuse_overV (self : Value) : ∀ {l : List Value}, overV l = true → refuseLoop self "__setattr__" l = pure ()
  | .ref c :: r, e => by rw [refuseLoop_ref]; exact refuse_overV self e
  | [], e => by cases e
  | .none :: r, e => by cases e
  | .type n :: r, e => by
    have := beq_iff_eq.mp (show (Value.type n :: r == bmV) = true from e)
    rw [this]
    exact PySem.F.store_ValueError.passes self
  | .bool _ :: r, e => by have := beq_iff_eq.mp (show (_ == bmV) = true from e); cases this
  | .int _ _ :: r, e => by have := beq_iff_eq.mp (show (_ == bmV) = true from e); cases this
  | .str _ _ :: r, e => by have := beq_iff_eq.mp (show (_ == bmV) = true from e); cases this
  | .bytes _ _ :: r, e => by have := beq_iff_eq.mp (show (_ == bmV) = true from e); cases this
  | .float _ _ :: r, e => by have := beq_iff_eq.mp (show (_ == bmV) = true from e); cases this
  | .builtin _ :: r, e => by have := beq_iff_eq.mp (show (_ == bmV) = true from e); cases this
theorem overV_has : ∀ {l : List Value}, overV l = true → l.contains (.type "object") = true
  | .ref c :: r, e => by rw [List.contains_cons, overV_has (l := r) e, Bool.or_true]
  | [], e => by cases e
  | .type n :: r, e => by rw [beq_iff_eq.mp (show (Value.type n :: r == bmV) = true from e)]; decide
  | .none :: r, e => by cases e
  | .bool _ :: r, e => by have := beq_iff_eq.mp (show (_ == bmV) = true from e); cases this
  | .int _ _ :: r, e => by have := beq_iff_eq.mp (show (_ == bmV) = true from e); cases this
  | .str _ _ :: r, e => by have := beq_iff_eq.mp (show (_ == bmV) = true from e); cases this
  | .bytes _ _ :: r, e => by have := beq_iff_eq.mp (show (_ == bmV) = true from e); cases this
  | .float _ _ :: r, e => by have := beq_iff_eq.mp (show (_ == bmV) = true from e); cases this
  | .builtin _ :: r, e => by have := beq_iff_eq.mp (show (_ == bmV) = true from e); cases this
section
variable {prg : Program} {wd : World} {Ar : Around} {R : Result → Shared → Prop} {K : PySem.W.Frag} {s : Shared} {x C : Addr} {name : Str} {v : Value} {mA : Str → Option Value} {ns : List Str}
theorem osa_head {tk : Tok} {o : Obj} {od : Option Obj} (X : K.In s.heap) (J : PySem.W.InstAt s.heap x o C od) (hp : (clsIn K C).any (fun cd => overV cd.mro) = true) (hh : (clsIn K C).any (·.hasDict) = true) (ht : takerIn K C name = some none)
    (hq : ∀ b cd c1 d1 sl1, cd.hasDict = true → s.heap.get? C = some ⟨c1, d1, .cls cd, sl1⟩ → wpAny (model prg wd) Ar.in1 (storeInOwnDict (.ref x) (.ref C) (.str name tk) name v b) (fun fin s' => match fin with | .done f => R (.ok f) s' | .again c' => c'.quiet = true ∧ codeAny (model prg wd) Ar c' R s') (fun e s' => R (.error e) s') s) :
    codeAny (model prg wd) Ar (.call (.builtin "object.__setattr__") ⟨[.ref x, .str name tk, v], []⟩) R s := by
  obtain ⟨cd, hc, ho⟩ := any_some hp
  have SF := PySem.F.store_object
  have ne : cd.mro.isEmpty = false := by
    cases q : cd.mro with
    | nil => rw [q] at ho; cases ho
    | cons _ _ => rfl
  have isO : Looks (model prg wd) s.heap (isInstance (.ref x) (.type "object")) true := J.type.andThen (looks_mroIn X (by unfold mroIn; rw [hc, Option.bind_some, if_neg (by rw [ne]; decide), overV_has ho]))
  refine codeAny_call_builtin SF.slot.plain SF.entry (@check_slot (model prg wd) _ _ s "object.__setattr__" "object" "__setattr__" (.ref x) [.str name tk, v] [] _ SF.kind SF.split isO (SF.args (.ref x) (.str name tk) v) ?_)
  obtain ⟨attr, ha, hr⟩ := Option.bind_eq_some_iff.mp ht
  have mro : Looks (model prg wd) s.heap (mroOf (.ref C)) cd.mro := (looks_clsIn X hc).andThen .now
  have tk0 : Looks (model prg wd) s.heap (storeTaker? attr) none := by
    cases attr with
    | none => exact .now
    | some a =>
      obtain ⟨b, hb, e⟩ := Option.map_eq_some_iff.mp hr
      cases b with
      | true => cases e
      | false => exact (looks_takesIn X hb).andThen .now
  rw [osa_eq, refuse_eq]
  refine wpAny_bind (wpAny_bind (J.type.here (wpAny_bind (mro.here ?_))))
  rw [refuse_overV _ ho]
  refine wpAny_pure (wpAny_bind (J.type.here (wpAny_bind ((looks_findIn X ha).here (wpAny_bind (tk0.here ?_))))))
  dsimp only
  have hd' : cd.hasDict = true := by
    obtain ⟨cd2, q1, q2⟩ := any_some hh
    rw [hc] at q1
    cases q1
    exact q2
  obtain ⟨c1, d1, sl1, hC⟩ : ∃ c1 d1 sl1, s.heap.get? C = some ⟨c1, d1, .cls cd, sl1⟩ := by
    unfold clsIn at hc
    split at hc
    · rename_i c' d' cd' sl' q
      cases hc
      exact ⟨_, _, _, X _ _ q⟩
    · cases hc
  exact hq _ cd c1 d1 sl1 hd' hC
theorem notCls_ne {o : Obj} (h : PySem.W.notCls o = true) (c : ClassData) : o.data ≠ .cls c := fun q => by unfold PySem.W.notCls at h; rw [q] at h; cases h
theorem osa_first {tk : Tok} {o : Obj} (X : K.In s.heap) (J : PySem.W.InstAt s.heap x o C none) (hp : (clsIn K C).any (fun cd => overV cd.mro) = true) (hh : (clsIn K C).any (·.hasDict) = true) (ht : takerIn K C name = some none)
    (hq : ∀ h' tk', h'.get? x = some { o with dict := some s.heap.objs.size } → h'.Ns1 s.heap.objs.size (fun y => if y = name then some v else none) → (∀ b u, b ≠ x → s.heap.get? b = some u → h'.get? b = some u) → R (.ok (.ret .none)) { s with heap := h', toks := tk' }) :
    codeAny (model prg wd) Ar (.call (.builtin "object.__setattr__") ⟨[.ref x, .str name tk, v], []⟩) R s := by
  refine osa_head X J hp hh ht fun b0 cd c1 d1 sl1 hd' hC => ?_
  have hx := J.at_
  have hcl := J.cls
  have dn : o.dict = none := by
    have := J.dict
    cases q : o.dict with
    | none => rfl
    | some _ => rw [q] at this; exact this.elim
  have lx := Heap.lt_size hx
  unfold storeInOwnDict
  repeat (first | (with_reducible refine wpAny_loadPart_at hx ?_; rw [hcl]) | with_reducible refine wpAny_load hC ?_ | wp_step)
  rw [dn]
  dsimp only
  rw [if_neg (by simp [typeHasDict])]
  split
  · rename_i c q
    exact absurd q (notCls_ne J.no c)
  · have hx1 : (s.heap.push { cls := .type "dict", data := .dict #[] }).get? x = some o := Heap.get?_push_of_some _ hx
    have xs : x ≠ s.heap.objs.size := Nat.ne_of_lt lx
    refine wpAny_bind (wpAny_alloc' (wpAny_bind (wpAny_update' hx1 (wpAny_pure ?_))))
    obtain ⟨h1, eh1⟩ : ∃ h1, h1 = (s.heap.push { cls := .type "dict", data := .dict #[] }).update x fun o => { cls := o.cls, dict := some s.heap.objs.size, data := o.data, slots := o.slots } := ⟨_, rfl⟩
    have gd : h1.get? s.heap.objs.size = some { cls := .type "dict", data := .dict #[] } := by rw [eh1]; exact (Heap.get?_update_ne _ _ _ _ xs.symm).trans (Heap.get?_push_at rfl rfl)
    have gx : h1.get? x = some { o with dict := some s.heap.objs.size } := by
      rw [eh1]
      refine Heap.get?_update_self _ hx1 ?_
      have fr := (Heap.get?_some_iff.mp hx).2
      obtain ⟨a1, a2, a3, a4⟩ := o
      cases a3 <;> first | rfl | exact fr
    have go : ∀ b u, b ≠ x → s.heap.get? b = some u → h1.get? b = some u := fun b u hb e => by rw [eh1]; exact (Heap.get?_update_ne _ _ _ _ hb).trans (Heap.get?_push_of_some _ e)
    have nd : h1.Ns s.heap.objs.size (fun _ => none) := ⟨_, #[], _, gd, rfl, fun e he => absurd he (by simp), fun _ => rfl⟩
    rw [← eh1]
    show wpAny _ _ (storeInDict s.heap.objs.size (.str name tk) name v) _ _ _
    unfold storeInDict newKeyGuard
    refine wpAny_bind (wpAny_pure (wpAny_bind (wpAny_nsSet1 (Heap.Ns1.of_empty nd) fun h' hn' hs => ?_)))
    obtain ⟨oD, eD, pD, hoD, hdD, hcD⟩ := hn'.count (Within.cons name v Within.nil)
    refine wpAny_bind (wpAny_lookBehind hoD (by rw [hdD]; exact pastItsLine_dict (Nat.le_trans hcD (by rw [List.length_cons, List.length_nil, sizeLine_eq]; omega))) ?_)
    wp_walk
    exact hq h' _ ((hs.2 x xs).trans gx) hn' fun b u hb e => (hs.2 b (Nat.ne_of_lt (Heap.lt_size e))).trans (go b u hb e)
end
end L2
namespace L2
open PySem PySem.Spec PyProof.Rows PySem.W PySem.Builtin PySem.Builtin.ObjectAttr
def excAnyO (C : Addr) (o : Obj) : Bool := match o.data with
  | .cls cd => o.cls == .type "type" && (cd.mro.head? == some (.ref C) && (cd.mro.tail.contains (.type "BaseException") && (o.slots.size == 6 && (o.slots[4]? == some (some (.builtin "ValueError.__new__")) && !cd.hasDel))))
  | _ => false
def excInA (K : PySem.W.Frag) (C : Addr) : Bool := (K.lookup C).any (excAnyO C)
theorem cls_any {K : PySem.W.Frag} {h : Heap} {C : Addr} (X : K.In h) (q : excInA K C = true) : ∃ tl N nm qn bs hdc sn sb ab cl dd k0 k1 k2 k3 k5, h.get? C = some (excClassObj nm qn C N bs tl hdc sn sb ab cl dd k0 k1 k2 k3 k5 "ValueError.__new__") ∧ tl.contains (.type "BaseException") = true := by
  obtain ⟨o, ho, q⟩ := any_some q
  obtain ⟨c, dd, data, sl⟩ := o
  cases data with
  | cls cd =>
    obtain ⟨nm, bs, mro, ns, qn, hd, sn, sub, ab, col, del⟩ := cd
    simp only [excAnyO, Bool.and_eq_true, beq_iff_eq, Bool.not_eq_true'] at q
    obtain ⟨h1, h2, h3, h4, h5, h6⟩ := q
    cases mro with
    | nil => cases h2
    | cons v bm =>
      cases h2
      obtain ⟨l⟩ := sl
      obtain ⟨k0, k1, k2, k3, k4, k5, rfl⟩ := list6 (l := l) h4
      cases h5
      subst h1 h6
      exact ⟨bm, ns, nm, qn, bs, hd, sn, sub, ab, col, dd, k0, k1, k2, k3, k5, X _ _ ho, h3⟩
  | _ => cases q
structure FKit (K : PySem.W.Frag) (D : Addr) : Prop where
  q : excInA K D = true
  ga : PySem.W.findIn K (.ref D) "__getattribute__" = some (some (.builtin "BaseException.__getattribute__"))
  gn : PySem.W.findIn K (.ref D) "__getattr__" = some none
section
variable {prg : Program} {wd : World} {Ar : Around} {K : PySem.W.Frag} {s : Shared} {x D : Addr} {ox : Obj} {od : Option Obj} {name : Str} {v : Value}
theorem excf_call {R : Result → Shared → Prop} {tk : Tok} (X : K.In s.heap) (I : PySem.W.InstAt s.heap x ox D od) (k : FKit K D) (hf : PySem.W.findObj K D od name = some (.value v)) (h : R (Except.ok (Flow.ret v)) s) :
    codeAny (model prg wd) Ar (Code.call (Value.builtin "BaseException.__getattribute__") { pos := [Value.ref x, Value.str name tk] }) R s := by
  obtain ⟨hh, g, d, t, os⟩ := s
  obtain ⟨tl, N, nm, qn, bs, hdct, sn, sub, ab, col, dd, k0, k1, k2, k3, k5, hC, hB⟩ := cls_any X k.q
  refine codeAny_call_builtin PySem.F.attrBase_ValueError.ga.plain PySem.F.entry_bexc_ga ?_
  have ck := @wpAny_check_slot_inst Ar.in1 (fun e s' => R (Except.error e) s') hh g d t os nm qn D N x bs tl hdct sn sub ab col dd k0 k1 k2 k3 k5 "ValueError.__new__" (model prg wd) "BaseException.__getattribute__" "BaseException" "__getattribute__" ox [Value.str name tk]
  refine ck kd1 kd2 (PySem.F.args_bexc_ga _ _) hB I.at_ I.cls hC ?_
  clear ck
  unfold Builtin.«object.__getattribute__» slotArgs
  generalize hfnd : Builtin.ObjectAttr.find = fnd
  generalize hbnd : Builtin.ObjectAttr.bindTo = bnd
  repeat (first | (with_reducible refine wpAny_loadPart_at I.at_ ?_; rw [I.cls]) | wp_step)
  subst hfnd
  refine (PySem.W.looks_find X I hf) _ _ _ _ (fun _ _ e => e) ?_
  dsimp only
  exact wpAny_pure h
theorem excf_get {E : Value → Shared → Prop} {Q : Value → Shared → Prop} {ex : Bool} (X : K.In s.heap) (I : PySem.W.InstAt s.heap x ox D od) (k : FKit K D) (hf : PySem.W.findObj K D od name = some (.value v)) (hv : PySem.W.handedIn v = true) (h : Q v { s with toks := s.toks + 1 }) :
    wpAny (model prg wd) Ar (getAttr (Value.ref x) name ex) Q E s := by
  unfold getAttr
  refine wpAny_bind (wpAny_mkText ?_)
  unfold getAttrBy
  refine wpAny_holding (wpAny_bind ((I.type (h := s.heap)) _ _ _ _ (fun _ _ e => e) ?_))
  refine wpAny_bind ((PySem.W.looks_findIn X k.ga) _ _ _ _ (fun _ _ e => e) ?_)
  dsimp only
  have e0 : (Value.builtin "BaseException.__getattribute__" == Value.builtin "object.__getattribute__") = false := by decide
  rw [e0, Bool.and_false, if_neg Bool.false_ne_true]
  unfold getAttrByItsOwn
  refine wpAny_bind ((PySem.W.looks_hook X (mc := .ref D) (r := none) k.gn) _ _ _ _ (fun _ _ e => e) ?_)
  refine wpAny_bind (wpAny_attempt (wpAny_holding ?_))
  unfold callGetattribute boundAndCalled
  rw [if_neg (by rw [show onTheHeap (Value.builtin "BaseException.__getattribute__") = false from rfl, Bool.and_false]; decide), PySem.F.attrBase_ValueError.ga.bind]
  refine wpAny_bind (wpAny_pure ?_)
  refine wpAny_call (excf_call (s := { s with toks := s.toks + 1 }) X I k hf ?_)
  exact PySem.W.handed_on hv h
end
end L2

set_option Elab.async false
set_option linter.all false
set_option maxRecDepth 100000
set_option maxHeartbeats 4000000
namespace L2
open PySem PySem.Spec PyProof.Rows
section
variable {P : Program} {w : World} {H H' : Hp} {h h' h0 : Heap} {a e T C : Addr} {o : HO}
structure FlyD (z : Prop) (d : Option Addr) (H : Hp) (h0 h : Heap) (e C : Addr) (oe : Obj) (vs : Array Value) (T : Addr) : Prop where
  at_ : h.get? e = some oe
  cls : oe.cls = .ref C
  dict : oe.dict = d
  data : oe.data = .fields vs
  sz : 1 < vs.size
  one : vs[1]? = some (.ref T)
  two : vs[2]? = some .none ∨ z
  ne : T ≠ e
  ent : Entry h T .none
  He : H e = none
  HT : H T = none
  ne0 : h0.get? e = none
  nT0 : h0.get? T = none
def CXD (P : Program) (w : World) : CXT := fun outer H s E e s' => ∃ (e0 C : Addr) (d : Option Addr) (H' : Hp), e = .ref e0 ∧ s'.os = s.os ∧ AllBare s'.gens ∧ Un (frs outer) [] H H' s.heap s'.heap ∧ HOk P w H' s'.heap ∧ (∃ oe vs T, FlyD (E .none d H') d H' s.heap s'.heap e0 C oe vs T) ∧ E (.ref C) d H'
theorem FlyD.next {z : Prop} {d : Option Addr} {oe : Obj} {vs : Array Value} {T' : Addr} (cls : oe.cls = .ref C) (dict : oe.dict = d) (data : oe.data = .fields vs) (sz : 1 < vs.size) (tw : vs[2]? = some .none ∨ z) (he : H e = none) (he0 : h0.get? e = none) (hok : HOk P w H h) (th : ∀ b o, h0.get? b = some o → ∃ o', h.get? b = some o') (hT : h.get? T' = none) (hin : ∃ o, h.get? e = some o)
    (h1 : h'.get? e = some (oe.mapFields (·.setIfInBounds 1 (.ref T')))) (h2 : Entry h' T' .none) : ∃ oe vs T, FlyD z d H h0 h' e C oe vs T := by
  have n0 : h0.get? T' = none := by
    cases z : h0.get? T' with
    | none => rfl
    | some o =>
      obtain ⟨o', e'⟩ := th T' o z
      rw [hT] at e'
      cases e'
  refine ⟨_, _, T', h1, (Obj.cls_mapFields _ _).trans cls, ?_, Obj.data_mapFields data _, by simpa using sz, by simp [sz], by rw [Array.getElem?_setIfInBounds_ne (by decide)]; exact tw, fun z => ?_, h2, he, hok.none_of hT, he0, n0⟩
  · obtain ⟨c, d, dt, sl⟩ := oe
    cases data
    exact dict
  · obtain ⟨o, q⟩ := hin
    rw [← z, hT] at q
    cases q
end
section
variable {X : Cx} {pins : List (Addr × Obj)} {σ : St} {H : Hp} {s s' : Shared} {E : XK} {e : Value}
theorem leave_onD {M : Model} {E' : Value → Shared → Prop} (hst : X.stack = X.env :: X.outer) (hfr : X.env.frame = some X.env.locals) (hex : X.ex = []) (I : Inv X pins σ H s) (h : CXD X.prog X.w X.stack H s E e s') :
    wpAny M X.A (leaving X.env e) (fun _ s'' => CXD X.prog X.w X.outer X.H₀ X.s₀ E e s'') E' s' := by
  obtain ⟨e0, C, d, H', rfl, os, bare, un, hok, ⟨oe, vs, T, F⟩, q⟩ := h
  have I' : Inv X pins σ H' s' := I.call' os un hok bare (fun b z => absurd z (by simp))
  have fr := I'.stack
  rw [hst] at fr
  have h0n : ∀ b, s.heap.get? b = none → X.s₀.heap.get? b = none := fun b n => by
    cases z : X.s₀.heap.get? b with
    | none => rfl
    | some o =>
      obtain ⟨o', e'⟩ := I.base.there b o z (by rw [hex]; simp)
      rw [n] at e'
      cases e'
  have ub : Un (frs X.outer) [] X.H₀ H' X.s₀.heap s'.heap := by
    have := I'.base
    rw [hex] at this
    exact this
  refine leaveX (by rw [← hst]; exact I.ok.frames) fr hfr F.at_ F.data F.sz (.inr ⟨T, F.one, F.ne, F.ent, rfl⟩) fun h' T' st n1 n2 n3 => ?_
  have new : ∀ b ∈ [e0, T], X.s₀.heap.get? b = none ∧ H' b = none := fun b hb => by
    simp only [List.mem_cons, List.not_mem_nil, or_false] at hb
    rcases hb with rfl | rfl
    · exact ⟨h0n _ F.ne0, F.He⟩
    · exact ⟨h0n _ F.nT0, F.HT⟩
  rw [← hst] at st
  refine ⟨e0, C, d, H', rfl, I'.os, I'.bare, ub.stp st (fun b hb => (new b hb).1) (fun b hb => ?_), hok.stp st (fun b hb => (new b hb).2) I'.stkFree, FlyD.next F.cls F.dict F.data F.sz F.two F.He (h0n _ F.ne0) hok (fun b o z => ub.there b o z (by simp)) n1 ⟨_, F.at_⟩ n2 n3, q⟩
  rcases List.mem_cons.mp (I.stkSub b hb) with z | z
  · right
    rw [z]
    exact Heap.get?_none_of_le I.ok.above
  · exact .inl z
theorem leave_madeD {M : Model} {E' : Value → Shared → Prop} {C e0 t : Addr} {oe : Obj} {d : Option Addr} (hst : X.stack = X.env :: X.outer) (hfr : X.env.frame = some X.env.locals) (hex : X.ex = []) (I : Inv X pins σ H s)
    (he : s.heap.get? e0 = some oe) (hc : oe.cls = .ref C) (hd : oe.dict = d) (hdat : oe.data = .fields #[.ref t, .none, .none, .none, .bool false, .none]) (hH : H e0 = none) (h0 : X.s₀.heap.get? e0 = none) (q : E (.ref C) d H) :
    wpAny M X.A (leaving X.env (.ref e0)) (fun _ s'' => CXD X.prog X.w X.outer X.H₀ X.s₀ E (.ref e0) s'') E' s := by
  have fr : s.heap.FunFrames X.base (X.env :: X.outer) := by rw [← hst]; exact I.stack
  have ub : Un (frs X.outer) [] X.H₀ H X.s₀.heap s.heap := by
    have := I.base
    rw [hex] at this
    exact this
  refine leaveX (s := s) (S := []) (by rw [← hst]; exact I.ok.frames) fr hfr he hdat (by simp) (.inl ⟨rfl, rfl⟩) fun h2 T' st n1 n2 n3 => ?_
  rw [← hst] at st
  refine ⟨e0, C, d, H, rfl, I.os, I.bare, ub.stp st (fun b hb => by rw [List.mem_singleton.mp hb]; exact h0) (fun b hb => ?_), I.hok.stp st (fun b hb => by rw [List.mem_singleton.mp hb]; exact hH) I.stkFree,
    FlyD.next hc hd hdat (by simp) (.inl rfl) hH h0 I.hok (fun b o z => ub.there b o z (by simp)) n1 ⟨_, he⟩ n2 n3, q⟩
  rcases List.mem_cons.mp (I.stkSub b hb) with z | z
  · right
    rw [z]
    exact Heap.get?_none_of_le I.ok.above
  · exact .inl z
theorem seenD {M : Model} {E1 : Value → Shared → Prop} {G : Shared → Prop} (hst : X.stack = X.env :: X.outer) (hfr : X.env.frame = some X.env.locals) (I : Inv X pins σ H s) (h : CXD X.prog X.w X.stack H s E e s')
    (k : ∀ (ea C : Addr) (d : Option Addr) (H' : Hp) (h5 : Heap) (oe : Obj) (vs : Array Value) (T : Addr), e = .ref ea → E (.ref C) d H' → FlyD (E .none d H') d H' s.heap h5 ea C oe vs T → (∀ h6 : Heap, (∀ b, b ≠ T → h6.get? b = h5.get? b) → Entry h6 T .none → Inv X pins σ H' { s' with heap := h6 }) → G { s' with heap := h5 }) :
    wpAny M X.A (noteFrame e X.env) (fun _ s₂ => wpAny M X.A (setFlight e none) (fun _ s₃ => G s₃) E1 s₂) E1 s' := by
  obtain ⟨e0, C, d, H', rfl, os, bare, un, hok, ⟨oe, vs, T, F⟩, q⟩ := h
  have I' : Inv X pins σ H' s' := I.call' os un hok bare (fun b z => absurd z (by simp))
  have fr := I'.stack
  rw [hst] at fr
  refine noteX (by rw [← hst]; exact I.ok.frames) fr hfr F.at_ F.data F.sz (.inr ⟨T, F.one, F.ne, F.ent, rfl⟩) fun h4 T' st n1 n2 n3 => ?_
  have hTe : e0 ≠ T' := fun z => by rw [← z, F.at_] at n1; cases n1
  refine landX (s := { s' with heap := h4 }) n2 (Obj.data_mapFields F.data _) (T := T') (by simp [F.sz]) n3 fun h5 k1 k2 => ?_
  rw [← hst] at st
  obtain ⟨oe', vs', T2, F'⟩ := FlyD.next (h := s'.heap) (h' := h5) F.cls F.dict F.data F.sz F.two F.He F.ne0 hok (fun b o z => un.there b o z (by simp)) n1 ⟨_, F.at_⟩ ((k1 e0 hTe).trans n2) k2
  have eT : T2 = T' := by
    have z := F'.at_
    rw [(k1 e0 hTe).trans n2] at z
    cases z
    have z1 := F'.data
    rw [Obj.data_mapFields F.data] at z1
    cases z1
    have z2 := F'.one
    simp [F.sz] at z2
    exact z2.symm
  subst eT
  refine k e0 C d H' h5 oe' vs' T2 rfl q F' fun h6 a1 a2 => ?_
  have new : ∀ b ∈ [e0, T], s.heap.get? b = none ∧ H' b = none := fun b hb => by
    simp only [List.mem_cons, List.not_mem_nil, or_false] at hb
    rcases hb with rfl | rfl
    · exact ⟨F.ne0, F.He⟩
    · exact ⟨F.nT0, F.HT⟩
  have st6 : Stp [e0, T] (frs X.stack) s'.heap h6 := ⟨fun b o q hS hf => by
      have hb : b ≠ T2 := fun z => by rw [z, n1] at q; cases q
      rw [a1 b hb, k1 b hb]
      exact st.keep b o q hS hf, fun b o q hf => by
      have hb : b ≠ T2 := fun z => by rw [z, n1] at q; cases q
      obtain ⟨sl, z⟩ := st.slot b o q hf
      exact ⟨sl, by rw [a1 b hb, k1 b hb]; exact z⟩⟩
  exact I.call' (s' := { s' with heap := h6 }) os (un.stp st6 (fun b hb => (new b hb).1) fun b hb => .inl hb) (hok.stp st6 (fun b hb => (new b hb).2) I'.stkFree) bare (fun b z => absurd z (by simp))
end
section
variable {P : Program} {w : World} {K : PySem.W.Frag} {mg : Str → Option Value} {base : Heap}
theorem passD {N : List Str} {qual : Str} {scope : Scope} {f : Addr} {cd : Value} {A : Around} {outer : List Env} {s : Shared} {H : Hp} {E : XK} : Passes (CXD P w) (cxOf (CXD P w) P w K mg base N qual scope f cd A outer s H E) E :=
  fun pins σ H1 s1 e s' I h => leave_onD (X := cxOf (CXD P w) P w K mg base N qual scope f cd A outer s H E) rfl rfl rfl I h
theorem ownD {N : List Str} {qual : Str} {scope : Scope} {f : Addr} {cd : Value} {A : Around} {outer : List Env} {s : Shared} {H : Hp} {E : XK} : PassesOwn (model P w) (cxOf (CXD P w) P w K mg base N qual scope f cd A outer s H E).A (cxOf (CXD P w) P w K mg base N qual scope f cd A outer s H E).env (cxOf (CXD P w) P w K mg base N qual scope f cd A outer s H E).xe :=
  PassesOwn.leaving
end
end L2

set_option Elab.async false
set_option linter.all false
set_option maxRecDepth 100000
set_option maxHeartbeats 4000000
namespace L2
open PySem PySem.Spec PyProof.Rows
def ExcDP (ea C : Addr) (d : Option Addr) (h : Heap) : Prop := ∃ (oe : Obj) (t : Addr), h.get? ea = some oe ∧ oe.cls = .ref C ∧ oe.dict = d ∧ oe.data = .fields #[.ref t, .none, .none, .none, .bool false, .none]
def ExcD (ea C : Addr) (d : Option Addr) : HO := .ext (ExcDP ea C d)
def XdP (dx : Addr) (fs : List (Str × V)) (h : Heap) : Prop := ∃ mA, h.Ns1 dx mA ∧ (∀ f, RelO (fs.lookup f) (mA f)) ∧ Within mA (fs.map (·.1))
def XdO (dx : Addr) (fs : List (Str × V)) : HO := .ext (XdP dx fs)
theorem ns1_keep {h1 h2 : Heap} {a : Addr} {m : Str → Option Value} (n : h1.Ns1 a m) (k : ∀ o, h1.get? a = some o → h2.get? a = some o) : h2.Ns1 a m := by
  obtain ⟨o, es, ep, e, r⟩ := n
  exact ⟨o, es, ep, k o e, r⟩
section
variable {X : Cx} {pins : List (Addr × Obj)} {σ : St} {H : Hp} {s : Shared} {a : Addr} {ob : Obj} {u : HO}
theorem Inv.adoptO (I : Inv X pins σ H s) (h1 : s.heap.get? a = some ob) (ok : ObjOk X.prog X.w (upd H a u) s.heap a u) (hH : H a = none) (h0 : X.s₀.heap.get? a = none) (nl : a ≠ X.env.locals) (nc : ∀ v, ob.data ≠ .cell v) (np : ∀ p ∈ X.pn ++ pins, p.1 ≠ a) :
    Inv X pins σ (upd H a u) s := by
  have old : ∀ {b : Addr} {o : HO}, H b = some o → upd H a u b = some o := fun q => by rw [upd_ne (ne_of_none q hH)]; exact q
  refine ⟨I.ok, I.os, I.bare, ⟨I.base.keep, I.base.slot, fun b o q n hx => ?_, I.base.there, fun b xs q => old (I.base.tups b xs q), fun b o u q => old (I.base.frzs b o u q), fun b ps q => ?_⟩, I.loc, I.cell, ?_, fun y c q => ?_, fun p hp => ?_, fun b o q => ?_, I.len⟩
  · have hb : b ≠ a := fun z => by rw [z, h0] at q; cases q
    rw [upd_ne hb]
    exact I.base.free b o q n hx
  · obtain ⟨more, z⟩ := I.base.tbls b ps q
    exact ⟨more, old z⟩
  · rw [upd_ne (Ne.symm nl)]
    exact I.free
  · have hb : c ≠ a := fun z => by
      obtain ⟨v, o, z1, z2⟩ := I.cell y c q
      rw [z, h1] at z1
      cases z1
      exact nc _ z2
    rw [upd_ne hb]
    exact I.freeC y c q
  · obtain ⟨q1, q2, q3⟩ := I.pin p hp
    exact ⟨q1, by rw [upd_ne (np p hp)]; exact q2, q3⟩
  · by_cases hb : b = a
    · subst hb
      rw [upd_same] at q
      cases q
      exact ok
    · rw [upd_ne hb] at q
      exact (I.hok b o q).stay (fun _ _ _ z => z) (fun _ z => old z) fun _ _ z => old z
end
structure SKit (K : PySem.W.Frag) (C : Addr) (f : Str) : Prop where
  sa : PySem.W.findIn K (.ref C) "__setattr__" = some (some (.builtin "object.__setattr__"))
  ov : (PySem.W.clsIn K C).any (fun cd => overV cd.mro) = true
  hd : (PySem.W.clsIn K C).any (·.hasDict) = true
  nt : PySem.W.takerIn K C f = some none
inductive SetF1 (K : PySem.W.Frag) (f : Str) (x y : V) (H : Hp) (N : Hp → Prop) : Prop
  | mk (ea C : Addr) (e : x = .ref ea) (h : H ea = some (ExcD ea C none)) (k : SKit K C f) (q : ∀ dx, H dx = none → dx ≠ ea → N (upd (upd H ea (ExcD ea C (some dx))) dx (XdO dx [(f, y)])))
section
variable {X : Cx} {pins : List (Addr × Obj)} {σ : St} {H : Hp} {s : Shared} {A : Around} {E : Value → Shared → Prop} {f : Str} {y : V} {u : Value} {Q : Unit → Shared → Prop} {ea C dx : Addr}
theorem setF1_ok (hex : X.ex = []) (I : Inv X pins σ H s) (h : H ea = some (ExcD ea C none)) (k : SKit X.K C f) (ry : RelV y u) (q : ∀ dx s', H dx = none → dx ≠ ea → Inv X pins σ (upd (upd H ea (ExcD ea C (some dx))) dx (XdO dx [(f, y)])) s' → Q () s') :
    wpAny (model X.prog X.w) A (setAttr (.ref ea) f u) Q E s := by
  obtain ⟨⟨oe, t, he, hc, hd, hdat⟩, _⟩ := I.hok _ _ h
  have J : PySem.W.InstAt s.heap ea oe C none := ⟨he, hc, by unfold PySem.W.notCls; rw [hdat], by rw [hd]; trivial⟩
  refine PySem.W.set_plain I.kIn J k.sa (osa_first (s := { s with toks := s.toks + 1 }) I.kIn J k.ov k.hd k.nt fun h' tk' g1 g2 g3 => ?_)
  have nx : s.heap.objs.size ≠ ea := Ne.symm (Nat.ne_of_lt (Heap.lt_size he))
  have I1 := I.write (x := ea) (e := ea) (o := ExcD ea C (some s.heap.objs.size)) (h' := h') (t' := tk') (by rw [h]; exact True.intro) (.inl rfl) g3 ⟨_, g1⟩
    ⟨⟨_, t, g1, hc, rfl, hdat⟩, ⟨_, g1⟩, fun k1 k2 ⟨o', t', z1, z2⟩ kk => ⟨o', t', kk o' z1, z2⟩⟩
  obtain ⟨od, es, ep, god, hod, hrest⟩ := id g2
  have w1 : Within (fun z => if z = f then some u else none) [f] := Within.cons f u Within.nil
  refine q s.heap.objs.size _ I.fresh nx (I1.adoptO (ob := od) god ⟨⟨_, g2, fun g => ?_, w1⟩, ⟨_, god⟩, fun k1 k2 ⟨m, z1, z2⟩ kk => ⟨m, ns1_keep z1 kk, z2⟩⟩ (by rw [upd_ne nx]; exact I.fresh) ?_ ?_ (fun v z => by rw [hod] at z; cases z) fun p hp z => ?_)
  · show RelO (List.lookup g [(f, y)]) (if g = f then some u else none)
    by_cases e : g = f
    · subst e; simp; exact ry
    · have : (g == f) = false := by simpa using e
      simp [List.lookup_cons, this, e]; trivial
  · cases z : X.s₀.heap.get? s.heap.objs.size with
    | none => rfl
    | some o =>
      obtain ⟨o', e'⟩ := I.base.there _ o z (by rw [hex]; simp)
      exact absurd (Heap.lt_size e') (Nat.lt_irrefl _)
  · obtain ⟨m, ⟨o, es', ep', ho, _⟩, _⟩ := I.loc
    exact fun z => by rw [← z] at ho; exact absurd (Heap.lt_size ho) (Nat.lt_irrefl _)
  · have := (I.pin p hp).1
    rw [z] at this
    exact absurd (Heap.lt_size this) (Nat.lt_irrefl _)
end
section
variable {X : Cx} {o value : Expr} {ta tv : TE} {f : Str} {pos pos' : Pos}
def sSetF1 (K : PySem.W.Frag) (ta tv : TE) (f : Str) : TS := fun D σ H => tv σ H fun y H1 => ta σ H1 fun x H2 => SetF1 K f x y H2 (D.nx σ)
theorem ps_setF1 (hex : X.ex = []) (ha : PE X o ta) (hv : PE X value tv) (hs : swapsWith value (some (.Attribute o f pos')) pos.line X.env = pure false) : PS X (.Assign [.Attribute o f pos'] value pos) (sSetF1 X.K ta tv f) := by
  intro pins s σ H D I h
  refine plainObj_wpAny_Assign_Attribute (thn (hv pins s σ H _ I h) fun u s1 z1 => z1.elim fun y H1 I1 ry q1 => thn (ha pins s1 σ H1 _ I1 q1) fun ov s2 z2 => z2.elim fun x H2 I2 rx q2 => ?_) hs
  obtain ⟨ea, C, rfl, he, k, q⟩ := q2
  obtain rfl : ov = Value.ref ea := rx
  exact setF1_ok hex I2 he k ry fun dx s3 n1 n2 I3 => ⟨σ, _, I3, q dx n1 n2⟩
end
end L2

set_option Elab.async false
set_option linter.all false
set_option maxRecDepth 100000
set_option maxHeartbeats 4000000
namespace L2
open PySem PySem.Spec PyProof.Rows
theorem lookIn_at {h : Heap} {dx : Addr} {m : Str → Option Value} {f : Str} {u : Value} {od : Obj} (n : h.Ns1 dx m) (e : m f = some u) (g : h.get? dx = some od) : PySem.W.lookIn f od = some (some u) := by
  obtain ⟨o, es, ep, ho, hd, _, _, hf⟩ := n
  rw [g] at ho
  cases ho
  have := (hf f).trans e
  unfold nsFind findBy at this
  rw [← Array.find?_toList] at this
  obtain ⟨en, h1, h2⟩ := Option.map_eq_some_iff.mp this
  unfold PySem.W.lookIn
  rw [hd]
  dsimp only
  rw [h1, ← h2]
def ExcH (ea C : Addr) (d : Option Addr) : HO := .ext fun h => ∃ oe : Obj, h.get? ea = some oe ∧ oe.cls = .ref C ∧ oe.dict = d ∧ PySem.W.notCls oe = true
structure GKit (K : PySem.W.Frag) (C : Addr) (f : Str) : Prop where
  fk : FKit K C
  hd : PySem.W.hasDictIn K C = true
  no : PySem.W.findIn K (.ref C) f = some none
inductive FldE (K : PySem.W.Frag) (f : Str) (x : V) (H : Hp) (Q : VK) : Prop
  | mk (ea C dx : Addr) (fs : List (Str × V)) (i : Int) (e : x = .ref ea) (h : H ea = some (ExcH ea C (some dx))) (h2 : H dx = some (XdO dx fs)) (l : fs.lookup f = some (.int i)) (k : GKit K C f) (q : Q (.int i) H)
def tFldE (K : PySem.W.Frag) (ta : TE) (f : Str) : TE := fun σ H Q => ta σ H fun x H1 => FldE K f x H1 Q
section
variable {X : Cx} {e : Expr} {ta : TE} {f : Str} {pos : Pos}
theorem pe_fldE (he : PE X e ta) (hb : attributeBase e f X.env (eval e X.env) = eval e X.env) : PE X (.Attribute e f pos) (tFldE X.K ta f) := by
  intro pins s σ H Q I h
  refine attr_of hb (thn (he pins s σ H _ I h) fun u s1 zq => zq.elim fun x H1 I1 rx q1 => ?_)
  obtain ⟨ea, C, dx, fs, i, rfl, h1, h2, l, k, q⟩ := q1
  obtain rfl : u = Value.ref ea := rx
  obtain ⟨⟨oe, ge, hc, hd, hn⟩, _⟩ := I1.hok _ _ h1
  obtain ⟨⟨mA, hns, rel, wi⟩, _⟩ := I1.hok _ _ h2
  obtain ⟨od, es, ep, god, hod, hrest⟩ := id hns
  have J : PySem.W.InstAt s1.heap ea oe C (some od) := ⟨ge, hc, hn, by rw [hd]; exact god⟩
  have r := rel f
  rw [l] at r
  cases hm : mA f with
  | none => rw [hm] at r; exact r.elim
  | some w =>
    rw [hm] at r
    obtain ⟨t, rfl⟩ : ∃ t, w = Value.int i t := r
    have hf := PySem.W.findObj_own (K := X.K) (C := C) (name := f) (od := od) (v := Value.int i t) (attr := none) k.hd k.no rfl (lookIn_at hns hm god)
    exact excf_get I1.kIn J k.fk hf rfl ⟨.int i, H1, I1.tok _, ⟨t, rfl⟩, q⟩
end
end L2

set_option Elab.async false
set_option linter.all false
set_option maxRecDepth 100000
set_option maxHeartbeats 4000000
namespace L2
open PySem PySem.Spec PyProof.Rows
structure XKitA (K : PySem.W.Frag) (D : Addr) : Prop where
  fk : FKit K D
  hdct : PySem.W.hasDictIn K D = true
  ha : PySem.W.findIn K (.ref D) "__class__" = some (some (.builtin "object.__class__"))
  hn : PySem.W.specialIn K (.builtin "object.__class__") "__get__" = some (some (.builtin "getset_descriptor.__get__"))
  htk : PySem.W.takesIn K (.builtin "object.__class__") = some true
  hm : PySem.W.mroIn K D (.type "object") = some true
theorem fobjA {K : PySem.W.Frag} {D : Addr} {od : Option Obj} (k : XKitA K D) : PySem.W.findObj K D od "__class__" = some (.bind (.builtin "getset_descriptor.__get__") (.builtin "object.__class__")) := by
  obtain ⟨cd, hc, _⟩ := PySem.W.any_some k.hdct
  simp only [PySem.W.findObj, hc, k.ha, k.hn, k.htk, Option.bind_some]
section
variable {prg : Program} {wd : World} {Ar : Around} {K : PySem.W.Frag} {s : Shared} {x D : Addr} {ox : Obj} {od : Option Obj}
theorem excA_call {tk : Tok} {R : Result → Shared → Prop} (X : K.In s.heap) (I : PySem.W.InstAt s.heap x ox D od) (k : XKitA K D) (h : R (Except.ok (Flow.ret (Value.ref D))) s) :
    codeAny (model prg wd) Ar (Code.call (Value.builtin "BaseException.__getattribute__") { pos := [Value.ref x, Value.str (Str.ofString "__class__") tk] }) R s := by
  obtain ⟨hh, g, d, t, os⟩ := s
  obtain ⟨tl, N, nm, qn, bs, hdct, sn, sub, ab, col, dd, k0, k1, k2, k3, k5, hC, hB⟩ := cls_any X k.fk.q
  have hf := fobjA (od := od) k
  refine codeAny_call_builtin PySem.F.attrBase_ValueError.ga.plain PySem.F.entry_bexc_ga ?_
  have ck := @wpAny_check_slot_inst Ar.in1 (fun e s' => R (Except.error e) s') hh g d t os nm qn D N x bs tl hdct sn sub ab col dd k0 k1 k2 k3 k5 "ValueError.__new__" (model prg wd) "BaseException.__getattribute__" "BaseException" "__getattribute__" ox [Value.str (Str.ofString "__class__") tk]
  refine ck kd1 kd2 (PySem.F.args_bexc_ga _ _) hB I.at_ I.cls hC ?_
  clear ck
  unfold Builtin.«object.__getattribute__» slotArgs
  generalize hfnd : Builtin.ObjectAttr.find = fnd
  generalize hbnd : Builtin.ObjectAttr.bindTo = bnd
  repeat (first | (with_reducible refine wpAny_loadPart_at I.at_ ?_; rw [I.cls]) | wp_step)
  subst hfnd
  refine (PySem.W.looks_find X I hf) _ _ _ _ (fun _ _ e => e) ?_
  dsimp only
  subst hbnd
  unfold Builtin.ObjectAttr.bindTo
  dsimp only
  refine wpAny_bind (wpAny_holding (wpAny_call (PySem.W.class_get X I k.hm ?_)))
  exact wpAny_pure h
theorem excA_class {E : Value → Shared → Prop} {Q : Option Value → Shared → Prop} (X : K.In s.heap) (I : PySem.W.InstAt s.heap x ox D od) (k : XKitA K D) (h : Q (some (Value.ref D)) { s with toks := s.toks + 1 }) :
    wpAny (model prg wd) Ar (getAttr? (Value.ref x) (Str.ofString "__class__")) Q E s := by
  unfold getAttr?
  refine wpAny_bind (wpAny_mkText ?_)
  unfold getAttrBy?
  refine wpAny_bind (wpAny_attempt ?_)
  unfold getAttrBy
  refine wpAny_holding (wpAny_bind ((I.type (h := s.heap)) _ _ _ _ (fun _ _ e => e) ?_))
  refine wpAny_bind ((PySem.W.looks_findIn X k.fk.ga) _ _ _ _ (fun _ _ e => e) ?_)
  dsimp only
  have e0 : (Value.builtin "BaseException.__getattribute__" == Value.builtin "object.__getattribute__") = false := by decide
  rw [e0, Bool.and_false, if_neg Bool.false_ne_true]
  unfold getAttrByItsOwn
  refine wpAny_bind ((PySem.W.looks_hook X (mc := .ref D) (r := none) k.fk.gn) _ _ _ _ (fun _ _ e => e) ?_)
  refine wpAny_bind (wpAny_attempt (wpAny_holding ?_))
  unfold callGetattribute boundAndCalled
  rw [if_neg (by decide), PySem.F.attrBase_ValueError.ga.bind]
  refine wpAny_bind (wpAny_pure ?_)
  refine wpAny_call (excA_call (s := { s with toks := s.toks + 1 }) X I k ?_)
  exact wpAny_pure (wpAny_pure h)
end
section
variable {K : PySem.W.Frag} {x D : Addr} {ox : Obj} {od : Option Obj}
theorem kitx_excA (k : XKitA K D) : PySem.W.KitX K (.ref x) (.ref D) (fun h => PySem.W.InstAt h x ox D od) where
  ty := fun _ _ _ I => I.type
  it := fun _ _ X _ => by
    obtain ⟨cdD, hcD, _⟩ := PySem.W.any_some k.hdct
    unfold PySem.W.clsIn at hcD
    split at hcD
    · rename_i c' d' cd' sl' ho
      intro A' Q' E' s' kk q
      unfold isType loadHead
      exact wpAny_bind (wpAny_loadPart (kk _ _ (X _ _ ho)) (wpAny_pure q))
    · cases hcD
  ne := fun h tp dd its n sl X htp => by
    obtain ⟨cdD, hcD, _⟩ := PySem.W.any_some k.hdct
    refine Bool.eq_false_iff.mpr fun q => ?_
    have e : D = tp := Value.ref.inj (beq_iff_eq.mp q)
    subst e
    unfold PySem.W.clsIn at hcD
    split at hcD
    · rename_i c' d' cd' sl' ho
      have z := (X _ _ ho).symm.trans htp
      cases z
    · cases hcD
  ca := fun {prog w A E Q s} X I h => excA_class X I k h
inductive IsiH (K : PySem.W.Frag) (C : Addr) (xs : List V) (H : Hp) (Q : VK) : Prop
  | mk (ea : Addr) (d : Option Addr) (c : V) (u : Value) (b : Bool) (e : xs = [.ref ea, c]) (h : H ea = some (ExcH ea C d)) (hd : d = none ∨ ∃ dx fs, d = some dx ∧ H dx = some (XdO dx fs)) (hu : ∀ u', RelV c u' → u' = u) (k : PySem.W.kitOne K (.ref C) u = some b) (q : Q (.bl b) H)
variable {X : Cx} {C : Addr}
theorem call_isiH (k : XKitA X.K C) : CallR X (.builtin "isinstance") (IsiH X.K C) := by
  intro pins s σ H xs us Q I r h
  obtain ⟨ea, d, c, u, b, rfl, hH, hd, hu, hk, q⟩ := h
  cases r with
  | cons r1 rr =>
    cases rr with
    | cons r2 rr =>
      cases rr
      cases (show _ = Value.ref ea from r1)
      cases hu _ r2
      obtain ⟨⟨oe, p1, hc, hdd, hn⟩, _⟩ := I.hok _ _ hH
      rcases hd with rfl | ⟨dx, fs, rfl, hx⟩
      · have J : PySem.W.InstAt s.heap ea oe C none := ⟨p1, hc, hn, by rw [hdd]; trivial⟩
        exact PySem.W.kia_one (kitx_excA k) I.kIn J hk (fun z => nomatch z) fun tk => ⟨.bl b, H, I.tok tk, rfl, q⟩
      · obtain ⟨⟨mA, ⟨od, es, ep, god, _⟩, _⟩, _⟩ := I.hok _ _ hx
        have J : PySem.W.InstAt s.heap ea oe C (some od) := ⟨p1, hc, hn, by rw [hdd]; exact god⟩
        exact PySem.W.kia_one (kitx_excA k) I.kIn J hk (fun z => nomatch z) fun tk => ⟨.bl b, H, I.tok tk, rfl, q⟩
end
end L2

set_option Elab.async false
set_option linter.all false
set_option maxRecDepth 100000
set_option maxHeartbeats 4000000
namespace L2
open PySem PySem.Spec PyProof.Rows
section
variable {M : Model} {Ar : Around} {Ex : Value → Shared → Prop} {env : Env}
variable {nm qn : Str} {C N : Addr} {bs tl : List Value} {hdc : Bool} {sn : List Str} {sb : List Value} {ab : Bool} {cl : Option Bool} {dd : Option Addr} {k0 k1 k2 k3 k5 : Option Value} {newId : String}
theorem raise_any {s : Shared} {t : Sem Value} {Q : Flow → Shared → Prop} (hb : tl.contains (.type "BaseException") = true) (hh : Ar.handled = none)
    (h : wpAny M Ar t (fun v s1 => ∃ e oe, v = .ref e ∧ s1.heap.get? C = some (excClassObj nm qn C N bs tl hdc sn sb ab cl dd k0 k1 k2 k3 k5 newId) ∧ s1.heap.get? e = some oe ∧ oe.cls = .ref C ∧ (∃ t, oe.data = .fields #[.ref t, .none, .none, .none, .bool false, .none]) ∧ Ex (.ref e) s1) Ex s) :
    wpAny M Ar (raiseStmt env (some t) none) Q Ex s := by
  have hcB : (Value.ref C :: tl).contains (.type "BaseException") = true := by rw [List.contains_cons, hb, Bool.or_true]
  unfold raiseStmt
  refine wpAny_bind (wpAny_mono h (fun v s1 z => ?_) fun _ _ x => x)
  obtain ⟨e, oe, rfl, hC, he, hc, ⟨t0, hd⟩, hE⟩ := z
  obtain ⟨oc, od, odt, osl⟩ := oe
  dsimp only at hc hd
  subst hc hd
  obtain ⟨hp, g, d, tk, os⟩ := s1
  repeat (first | with_reducible refine wpAny_loadPart_at he ?_ | with_reducible refine wpAny_loadPart_at hC ?_ | (with_reducible refine wpAny_isSubtype_exc hC ?_; rw [hcB]) | wp_step)
  exact wpAny_raiseNew_none hh hE
end
section
variable {prg : Program} {wd : World} {Ar : Around} {Ex : Value → Shared → Prop} {env : Env} {s : Shared}
variable {nm qn : Str} {C N : Addr} {bs tl bmB : List Value} {hdc : Bool} {sn : List Str} {sb : List Value} {ab : Bool} {cl : Option Bool} {dd : Option Addr} {k0 k1 k2 k3 k5 : Option Value} {B newId initId : String}
theorem raise_own (F : ExcBaseFacts B newId initId bmB) {mN : Str → Option Value} {fI : Addr} {x : Str} {np cpos pos : Pos} {args : List Expr} {Q : Flow → Shared → Prop}
    (hb : tl.contains (.type "BaseException") = true) (hh : Ar.handled = none) (hpl : (backTo cpos (starEach args env)).any (·.1) = false) (hi : mN "__init__" = some (.ref fI))
    (h : wpAny (model prg wd) Ar (eval (.Name x np) env) (fun f s1 => f = .ref C ∧ wpAny (model prg wd) Ar (evalArgs (.ref C) true (backTo cpos (starEach args env)) [])
      (fun a s2 => a.kw = [] ∧ a.pos.length ≤ sizeLine ∧ s2.heap.get? C = some (excClassObj nm qn C N bs tl hdc sn sb ab cl dd k0 k1 k2 k3 k5 newId) ∧ s2.heap.Ns N mN ∧ OwnTail s2.heap bmB tl ∧ (∃ oI, s2.heap.get? fI = some oI ∧ oI.cls = .type "function") ∧
        ∀ h' e, Heap.MadeExcOf s2.heap h' e (.ref C) a.pos → wpAny (model prg wd) (Ar.under (.builtin "type.__call__" ⟨.ref C :: a.pos, []⟩)) (call (.ref fI) (.ref e :: a.pos))
          (fun r s' => r = .none ∧ s'.heap.get? C = some (excClassObj nm qn C N bs tl hdc sn sb ab cl dd k0 k1 k2 k3 k5 newId) ∧ (∃ oe, s'.heap.get? e = some oe ∧ oe.cls = .ref C ∧ ∃ t, oe.data = .fields #[.ref t, .none, .none, .none, .bool false, .none]) ∧ Ex (.ref e) s') Ex { s2 with heap := h' }) Ex s1) Ex s) :
    wpAny (model prg wd) Ar (exec (.Raise (some (.Call (.Name x np) args [] cpos)) none pos) env) Q Ex s := by
  rw [arm_exec_Raise]
  simp only [evalOpt, Option.map]
  refine wpAny_bind (wpAny_standAt (raise_any (C := C) (nm := nm) (qn := qn) (N := N) (bs := bs) (tl := tl) (hdc := hdc) (sn := sn) (sb := sb) (ab := ab) (cl := cl) (dd := dd) (k0 := k0) (k1 := k1) (k2 := k2) (k3 := k3) (k5 := k5) (newId := newId) hb hh ?_))
  refine wpAny_bind (wpAny_mono (wpAny_Call_ofName (wpAny_mono h (fun f s1 z1 => ?_) fun _ _ y => y)) (fun v s3 z3 => wpAny_bind (wpAny_standAt (wpAny_pure z3))) fun _ _ y => y)
  obtain ⟨rfl, z1⟩ := z1
  unfold callWith
  refine wpAny_bind (wpAny_holding (wpAny_mono z1 (fun a s2 z2 => wpAny_bind (wpAny_standAt ?_)) fun _ _ y => y))
  obtain ⟨apos, akw⟩ := a
  obtain ⟨kw, len, hC, hn, T, ⟨oI, hf, hc⟩, z2⟩ := z2
  obtain rfl : akw = [] := kw
  obtain ⟨hp, g, d, tk, os⟩ := s2
  simp only [hpl]
  refine wpAny_bind (wpAny_keeperOf_exc hC ?_)
  refine wpAny_bind (call_own F T hC hn hi hf hc len fun h' e hm => wpAny_mono (z2 h' e hm) (fun r s' w => ⟨w.1, wpAny_bind (wpAny_holding (wpAny_point (wpAny_pure ?_)))⟩) fun _ _ y => y)
  obtain ⟨_, q1, ⟨oe, q2, q3, q4⟩, q5⟩ := w
  exact ⟨e, oe, rfl, q1, q2, q3, q4, q5⟩
end
end L2

set_option Elab.async false
set_option linter.all false
set_option maxRecDepth 100000
set_option maxHeartbeats 4000000
namespace L2
open PySem PySem.Spec PyProof.Rows
def ownObjI (K : PySem.W.Frag) (C fI : Addr) (o : Obj) : Bool := match o.data with
  | .cls cd => o.cls == .type "type" && (cd.mro.head? == some (.ref C) && (PySem.W.tailIn K bmV cd.mro.tail && (o.slots.size == 6 && (o.slots[4]? == some (some (.builtin "ValueError.__new__")) && (!cd.hasDel && (PySem.W.nsOkIn K cd.ns && PySem.W.nsIn K cd.ns "__init__" == some (some (.ref fI))))))))
  | _ => false
def ownInI (K : PySem.W.Frag) (C fI : Addr) : Bool := (K.lookup C).any (ownObjI K C fI)
theorem ns_some_of {K : PySem.W.Frag} {h : Heap} {N : Addr} {mg : Str → Option Value} {n : Str} {v : Value} (X : K.In h) (G : h.Ns N mg) (e : PySem.W.nsIn K N n = some (some v)) : mg n = some v := by
  obtain ⟨o, es, ep, ho, hd, _, hf⟩ := G
  unfold PySem.W.nsIn at e
  split at e
  · rename_i c d es' n' sl q
    have := X _ _ q
    rw [ho] at this
    cases this
    cases hd
    split at e
    · rename_i en he
      cases e
      rw [← hf]
      unfold nsFind findBy
      rw [← Array.find?_toList, he]
      rfl
    · split at e <;> cases e
  · cases e
theorem own_inI {K : PySem.W.Frag} {h : Heap} {C fI : Addr} (X : K.In h) (q : ownInI K C fI = true) : ∃ tl N nm qn bs hdc sn sb ab cl dd k0 k1 k2 k3 k5 mN, h.get? C = some (excClassObj nm qn C N bs tl hdc sn sb ab cl dd k0 k1 k2 k3 k5 "ValueError.__new__") ∧ h.Ns N mN ∧ mN "__init__" = some (.ref fI) ∧ OwnTail h bmV tl := by
  obtain ⟨o, ho, q⟩ := PySem.W.any_some q
  obtain ⟨c, dd, data, sl⟩ := o
  cases data with
  | cls cd =>
    obtain ⟨nm, bs, mro, ns, qn, hd, sn, sub, ab, col, del⟩ := cd
    simp only [ownObjI, Bool.and_eq_true, beq_iff_eq, Bool.not_eq_true'] at q
    obtain ⟨h1, h2, h3, h4, h5, h6, h7, h8⟩ := q
    cases mro with
    | nil => cases h2
    | cons v bm =>
      cases h2
      obtain ⟨l⟩ := sl
      obtain ⟨k0, k1, k2, k3, k4, k5, rfl⟩ := list6 (l := l) h4
      cases h5
      subst h1 h6
      have N := Heap.Ns.of_isNs (PySem.W.isNs_of_in X h7)
      exact ⟨bm, ns, nm, qn, bs, hd, sn, sub, ab, col, dd, k0, k1, k2, k3, k5, _, X _ _ ho, N, ns_some_of X N h8, PySem.W.tail_of_in X h3⟩
  | _ => cases q
section
variable {X : Cx} {pins : List (Addr × Obj)} {σ : St} {H H3 : Hp} {s : Shared} {a : Addr} {φ : Heap → Prop}
theorem Inv.drop (I : Inv X pins σ H s) (h : H a = some (.ext φ)) (n : H3 a = none) (o : ∀ b, b ≠ a → H3 b = H b) : Inv X pins σ H3 s := by
  have no : ∀ {b}, H b = none → H3 b = none := fun {b} z => by
    by_cases e : b = a
    · rw [e]; exact n
    · rw [o b e]; exact z
  have keep : ∀ {b u}, H b = some u → (∀ φ, u ≠ .ext φ) → H3 b = some u := fun {b u} z nx => by
    by_cases e : b = a
    · rw [e, h] at z; cases z; exact absurd rfl (nx _)
    · rw [o b e]; exact z
  refine ⟨I.ok, I.os, I.bare, ⟨I.base.keep, I.base.slot, fun b ob q n hx => no (I.base.free b ob q n hx), I.base.there, fun b xs q => keep (I.base.tups b xs q) (fun _ z => nomatch z), fun b ob u q => keep (I.base.frzs b ob u q) (fun _ z => nomatch z), fun b ps q => ?_⟩, I.loc, I.cell, no I.free, fun y c q => no (I.freeC y c q), fun p hp => ?_, fun b u q => ?_, I.len⟩
  · obtain ⟨more, z⟩ := I.base.tbls b ps q
    exact ⟨more, keep z (fun _ z => nomatch z)⟩
  · obtain ⟨q1, q2, q3⟩ := I.pin p hp
    exact ⟨q1, no q2, q3⟩
  · have e : b ≠ a := fun e => by rw [e, n] at q; cases q
    rw [o b e] at q
    exact (I.hok b u q).stay (fun _ _ _ z => z) (fun _ z => keep z (fun _ z => nomatch z)) fun _ _ z => keep z (fun _ z => nomatch z)
end
def RaisesD (X : Cx) (E : XK) : Prop := ∀ (pins : List (Addr × Obj)) (σ : St) (H : Hp) (s : Shared) (e0 C t : Addr) (oe : Obj) (d : Option Addr), Inv X pins σ H s → s.heap.get? e0 = some oe → oe.cls = .ref C → oe.dict = d → oe.data = .fields #[.ref t, .none, .none, .none, .bool false, .none] → H e0 = none → X.s₀.heap.get? e0 = none → E (.ref C) d H → X.xe (.ref e0) s
theorem raisesD {P : Program} {w : World} {K : PySem.W.Frag} {mg : Str → Option Value} {base : Heap} {N : List Str} {qual : Str} {scope : Scope} {f : Addr} {cd : Value} {A : Around} {outer : List Env} {s : Shared} {H : Hp} {E : XK} : RaisesD (cxOf (CXD P w) P w K mg base N qual scope f cd A outer s H E) E :=
  fun pins σ H1 s1 e0 C t oe d I he hc hd hdat hH h0 q => leave_madeD (X := cxOf (CXD P w) P w K mg base N qual scope f cd A outer s H E) rfl rfl rfl I he hc hd hdat hH h0 q
inductive RaiQ (E : XK) (C ea : Addr) (v : V) (H2 : Hp) : Prop
  | mk (d : Option Addr) (H3 : Hp) (e : v = .non) (h : H2 ea = some (ExcD ea C d)) (n : H3 ea = none) (o : ∀ b, b ≠ ea → H3 b = H2 b) (q : E (.ref C) d H3)
inductive RaiI (sp : Sp) (E : XK) (C : Addr) (vs : List V) (H1 : Hp) : Prop
  | mk (l : vs.length ≤ sizeLine) (q : ∀ ea, H1 ea = none → sp (.ref ea :: vs) (upd H1 ea (ExcD ea C none)) (RaiQ E C ea) E0)
section
variable {X : Cx}
theorem ps_raiseI {x : Str} {C fI : Addr} {e1 : Expr} {es : List Expr} {ta : TA} {E : XK} {np cpos pos : Pos} {k : Nat} {fd : FuncData} {ps : List Str} {sp : Sp} (hc : X.calm = true) (hex : X.ex = []) (hg : Gl X x) (hm : X.mg x = some (.ref C)) (hq : ownInI X.K C fI = true)
    (F : FnOk X.prog X.w X.K X.mg X.base CX0 k fI fd ps sp) (hr : Room (k + 1) X.A) (hb : Binds X.K fd ps []) (hfn : ∃ oI, X.K.lookup fI = some oI ∧ oI.cls = .type "function")
    (hE : RaisesD X E) (ha : PA X (e1 :: es) ta) (hdb : (x == ("__debug__" : Str)) = false := by decide) (he : starEach (e1 :: es) X.env = (false, eval e1 X.env) :: starEach es X.env := by rfl) (hpl : (backTo cpos (starEach es X.env)).any (·.1) = false := by rfl) :
    PS X (.Raise (some (.Call (.Name x np) (e1 :: es) [] cpos)) none pos) (fun D σ H => ta σ H fun vs H1 => RaiI sp E C vs H1) := by
  intro pins s σ H D I h
  obtain ⟨tl, N, nm, qn, bs, hdct, sn, sub, ab, col, dd, k0, k1, k2, k3, k5, mN, hC, hN, hni, T⟩ := own_inI I.ok.mod.kin hq
  refine raise_own (C := C) (nm := nm) (qn := qn) (N := N) (bs := bs) (tl := tl) (hdc := hdct) (sn := sn) (sb := sub) (ab := ab) (cl := col) (dd := dd) (k0 := k0) (k1 := k1) (k2 := k2) (k3 := k3) (k5 := k5)
    PySem.F.excBase_ValueError (mN := mN) (T.hasType kd3) (I.ok.hd hc) (by rw [he]; exact hpl) hni (ld_glob I hg hm ⟨rfl, ?_⟩ hdb)
  have key := ha cpos pins s σ H _ I h
  rw [he] at key ⊢
  refine Calls.evalArgs_plain (wpAny_mono key (fun us s1 h1 => ?_) fun _ _ y => y)
  obtain ⟨vs, H1, I1, r, hl, q1⟩ := h1
  obtain ⟨oI, lk, hcI⟩ := hfn
  refine ⟨rfl, by rw [← r.length]; exact hl, I1.bk _ _ hC, hN.keeps I1.bk, T.keeps I1.bk, ⟨oI, I1.kIn _ _ lk, hcI⟩, fun h' ea hmk => ?_⟩
  have n0 : X.s₀.heap.get? ea = none := by
    cases z : X.s₀.heap.get? ea with
    | none => rfl
    | some o =>
      obtain ⟨o', e'⟩ := I1.base.there ea o z (by rw [hex]; simp)
      rw [hmk.new] at e'
      cases e'
  have hH : H1 ea = none := I1.hok.none_of hmk.new
  obtain ⟨t, ht, _, _⟩ := hmk.there
  have I2 : Inv X pins σ H1 { s1 with heap := h' } := I1.call' (ch := []) (s' := { s1 with heap := h' }) rfl (Un.kept hmk.keeps) (I1.hok.kept hmk.keeps) I1.bare (fun b z => absurd z (by simp))
  have nl : ea ≠ X.env.locals := fun z => by
    obtain ⟨m, ⟨o, es, ep, ho, hd, _⟩, _⟩ := I1.loc
    rw [← z, hmk.new] at ho
    cases ho
  have I3 : Inv X pins σ (upd H1 ea (ExcD ea C none)) { s1 with heap := h' } := I2.adoptO (u := ExcD ea C none) ht ⟨⟨_, t, ht, rfl, rfl, rfl⟩, ⟨_, ht⟩, fun g1 g2 ⟨o', t', z1, z2⟩ kk => ⟨o', t', kk o' z1, z2⟩⟩ hH n0 nl (fun v z => nomatch z) fun p hp z => by
    have := (I1.pin p hp).1
    rw [z, hmk.new] at this
    cases this
  have rr : Vals (V.ref ea :: vs) (Value.ref ea :: us) := .cons rfl r
  have q2 := q1 ea hH
  have bd := hb { s1 with heap := h' } (Value.ref ea :: us) I3.kIn (by rw [List.append_nil, ← rr.length]; exact F.len _ _ _ _ q2)
  rw [List.append_nil] at bd
  refine wpAny_call (codeAny_mono (F.run _ X.stack _ _ ⟨Value.ref ea :: us, []⟩ _ _ _ _ (hr.make C us []) (I3.env0.make C us []) bd rr q2) fun r' s' hq' => ?_)
  cases r' with
  | error e => exact False.elim hq'
  | ok fl =>
    cases fl with
    | next => exact False.elim hq'
    | brk => exact False.elim hq'
    | cont => exact False.elim hq'
    | ret u =>
      obtain ⟨v, H2, I4, rv, z⟩ := I3.after hq'
      obtain ⟨d, H3, rfl, h2, n3, o3, qE⟩ := z
      obtain ⟨⟨oe, t', he', hc', hd', hdat⟩, _⟩ := I4.hok _ _ h2
      refine ⟨rv, I4.bk _ _ hC, ⟨oe, he', hc', t', hdat⟩, ?_⟩
      exact hE pins σ H3 s' ea C t' oe d (I4.drop h2 n3 o3) he' hc' hd' hdat n3 n0 qE
end
end L2

set_option Elab.async false
set_option linter.all false
set_option maxRecDepth 100000
set_option maxHeartbeats 4000000
namespace L2
open PySem PySem.Spec PyProof.Rows
abbrev TH := Addr → Option Addr → Ends → St → Hp → Prop
theorem sub_baseA {K : PySem.W.Frag} {h : Heap} {C D : Addr} {nm q : Str} {N : Addr} {bs bm : List Value} {hdct : Bool} {sn : List Str} {sub : List Value} {ab : Bool} {col : Option Bool} {dd : Option Addr} {k0 k1 k2 k3 k5 : Option Value} {newId : String} {b : Bool}
    (X : K.In h) (q0 : excInA K C = true) (hC : h.get? C = some (excClassObj nm q C N bs bm hdct sn sub ab col dd k0 k1 k2 k3 k5 newId)) (hs : subIn K C D = b) : (Value.ref C :: bm).contains (.ref D) = b := by
  cases z : K.lookup C with
  | none =>
    obtain ⟨o, ho, _⟩ := PySem.W.any_some q0
    rw [z] at ho
    cases ho
  | some o =>
    have := X _ _ z
    rw [hC] at this
    cases this
    unfold subIn at hs
    rw [z] at hs
    exact hs
section
variable {X : Cx} {pins : List (Addr × Obj)} {σ : St} {H : Hp} {s : Shared}
theorem Inv.goes {h' : Heap} {m : Str → Option Value} {u : Option Value} {t' i : Nat} {n : Str} (I : Inv X pins σ H s) (hN : X.N.Nodup) (hi : X.N[i]? = some n) (hm : ∀ (j : Nat) (x : Str) (v : V), X.N[j]? = some x → σ[j]? = some (some v) → Vis X.env.scope x → ∃ u, RelV v u ∧ Look X.env s.heap m x u)
    (hn : h'.Ns X.env.locals (fun x => if x = n then u else m x)) (hs : Heap.SameBut X.env.locals s.heap h') : Inv X pins (σ.set i none) H { s with heap := h', toks := t' } := by
  have keep : ∀ b o, b ≠ X.env.locals → s.heap.get? b = some o → h'.get? b = some o := fun b o hb q => (hs.2 b hb).trans q
  have lo : ∀ {b o}, X.s₀.heap.get? b = some o → b ≠ X.env.locals := fun e => Nat.ne_of_lt (Nat.lt_of_lt_of_le (Heap.lt_size e) I.ok.above)
  refine ⟨I.ok, I.os, I.bare, ⟨fun b o e n hb hx => keep b o (lo e) (I.base.keep b o e n hb hx), fun b o e n hb hx => ?_, I.base.free, fun b o e hx => ?_, I.base.tups, I.base.frzs, I.base.tbls⟩, ⟨_, hn, fun j y v e1 e2 e3 => ?_⟩, fun y c q => ?_, I.free, I.freeC, fun p hp => ?_, ?_, by rw [List.length_set]; exact I.len⟩
  · obtain ⟨sl, e1⟩ := I.base.slot b o e n hb hx
    exact ⟨sl, keep b _ (lo e) e1⟩
  · obtain ⟨o', e1⟩ := I.base.there b o e hx
    exact ⟨o', keep b _ (lo e) e1⟩
  · have ji : j ≠ i := fun z => by
      subst z
      rw [List.getElem?_set] at e2
      split at e2
      · split at e2 <;> cases e2
      · rename_i w; exact absurd rfl w
    rw [List.getElem?_set_ne (Ne.symm ji)] at e2
    obtain ⟨w, rw', lk⟩ := hm j y v e1 e2 e3
    have yn : y ≠ n := fun z => ji ((List.getElem?_inj (List.getElem?_eq_some_iff.mp e1).1 hN).mp (by rw [e1, hi, z]))
    refine ⟨w, rw', ?_⟩
    rcases lk with ⟨l1, l2⟩ | ⟨l1, c, l2, l3⟩
    · exact .inl ⟨l1, (if_neg yn).trans l2⟩
    · exact .inr ⟨l1, c, l2, l3.sameBut hs (I.cne y c l2)⟩
  · obtain ⟨v, z⟩ := I.cell y c q
    exact ⟨v, z.sameBut hs (I.cne y c q)⟩
  · obtain ⟨q1, q2, q3, q4, q5⟩ := I.pin p hp
    exact ⟨keep p.1 p.2 q3 q1, q2, q3, q4, q5⟩
  · intro b u q
    refine (I.hok b u q).stay (fun c w hc z => keep c w (fun k => ?_) z) (fun _ z => z) fun _ _ z => z
    rcases hc with rfl | hc
    · rw [k, I.free] at q; cases q
    · rw [k, I.free] at hc; cases hc
end
def PH (X : Cx) (hs : List ExceptHandler) (t : TH) : Prop :=
  ∀ (pins : List (Addr × Obj)) (s : Shared) (σ : St) (H : Hp) (D : Ends) (h0 : Heap) (ea C T : Addr) (d : Option Addr) (oe : Obj) (vs : Array Value) (z : Prop), FlyD z d H h0 s.heap ea C oe vs T → X.s₀.heap.get? ea = none → (∀ p ∈ X.pn ++ pins, p.1 ≠ ea) →
    (∀ h6 : Heap, (∀ b, b ≠ T → h6.get? b = s.heap.get? b) → Entry h6 T .none → Inv X pins σ H { s with heap := h6 }) → excInA X.K C = true → t C d D σ H → wpAny (model X.prog X.w) X.A (handleBy (.ref ea) X.env hs) (SP X pins D) X.xe s
def Ends.goes (D : Ends) (i : Nat) : Ends := { nx := fun σ H => D.nx (σ.set i none) H, rt := D.rt, bk := fun σ H => D.bk (σ.set i none) H, ct := fun σ H => D.ct (σ.set i none) H }
inductive HndQ (K : PySem.W.Frag) (Dd : Addr) (i : Nat) (tx : TS) (tr : TH) (C : Addr) (d : Option Addr) (D : Ends) (σ : St) (H : Hp) : Prop
  | hit (b : subIn K C Dd = true) (q : ∀ ea, H ea = none → tx (D.goes i) (σ.set i (some (.ref ea))) (upd H ea (ExcH ea C d))) : HndQ K Dd i tx tr C d D σ H
  | miss (b : subIn K C Dd = false) (q : tr C d D σ H) : HndQ K Dd i tx tr C d D σ H
def tHand (K : PySem.W.Frag) (Dd : Addr) (i : Nat) (tx : TS) (tr : TH) : TH := fun C d D σ H => HndQ K Dd i tx tr C d D σ H
section
variable {X : Cx} {k i j : Nat} {f C Dd : Addr} {fd : FuncData} {ps : List Str} {sp : Sp} {x y n z : Str} {p pos hp yp tp cp zp : Pos} {e0 : Expr} {es : List Expr} {ta : TA} {b0 : Stmt} {suite : List Stmt} {tx : TS} {tr : TH} {rest : List ExceptHandler}
theorem ph_nil : PH X [] (fun _ _ _ _ _ => False) := fun _ _ _ _ _ _ _ _ _ _ _ _ _ _ _ _ _ _ q => False.elim q
theorem ph_cons (hg : Gl X y) (hm : X.mg y = some (.ref Dd)) (qD : excInA X.K Dd = true) (hN : X.N.Nodup) (hi : X.N[i]? = some n) (hl : X.env.scope.names.lookup n = some .local) (hsu : ∀ e, PSs (X.held e) (b0 :: suite) tx) (hr : PH X rest tr) (hdb : (y == ("__debug__" : Str)) = false := by decide) :
    PH X (.ExceptHandler (some (.Name y yp)) (some n) (b0 :: suite) hp :: rest) (tHand X.K Dd i tx tr) := by
  intro pins s σ H D h0 ea C T d oe vs zz F n0 np mk qC h
  obtain ⟨hh, gg, dr, tk, os⟩ := s
  have I5 := mk hh (fun _ _ => rfl) F.ent
  have KX := I5.ok.mod.kin
  obtain ⟨tl, N, nm, qn, bs, hdct, sn, sub, ab, col, dd, k0, k1, k2, k3, k5, hC, _⟩ := cls_any KX qC
  obtain ⟨tl', N', nm', q', bs', hdct', sn', sub', ab', col', dd', k0', k1', k2', k3', k5', hD, hB⟩ := cls_any KX qD
  refine wpAny_handleBy_cons (codeAny_handlers_test (ld_glob (X := X.held (.ref ea)) (I5.held _) hg hm ?_ hdb)) (by intro z; cases z)
  cases h with
  | miss b q =>
    refine excMatches_own (M := model X.prog X.w) (A := (X.held (.ref ea)).A) (I5.bk _ _ hC) (I5.bk _ _ hD) F.at_ F.cls hB (sub_baseA KX qC hC b) ?_
    exact hr pins ⟨hh, gg, dr, tk, os⟩ σ H D h0 ea C T d oe vs zz F n0 np mk qC q
  | hit b q =>
    refine excMatches_own (M := model X.prog X.w) (A := (X.held (.ref ea)).A) (I5.bk _ _ hC) (I5.bk _ _ hD) F.at_ F.cls hB (sub_baseA KX qC hC b) ?_
    refine codeAny_handlers_suite_as (landX F.at_ F.data F.one F.ent fun h6 k1 k2 => ?_)
    have I6 := mk h6 k1 k2
    have e6 : h6.get? ea = some oe := (k1 ea (Ne.symm F.ne)).trans F.at_
    have nl : ea ≠ X.env.locals := fun z => by
      obtain ⟨m, ⟨o, es, ep, ho, hd, _⟩, _⟩ := I6.loc
      rw [← z, e6] at ho
      cases ho
      rw [F.data] at hd
      cases hd
    have IP := (I6.held (.ref ea)).adoptO (u := ExcH ea C d) e6 ⟨⟨oe, e6, F.cls, F.dict, by unfold PySem.W.notCls; rw [F.data]⟩, ⟨_, e6⟩, fun g1 g2 ⟨o', z1, z2⟩ kk => ⟨o', kk o' z1, z2⟩⟩ F.He n0 nl (fun v z => by rw [F.data] at z; cases z) np
    refine store_ok (X := X.held (.ref ea)) IP hN hi (.inl hl) (v := .ref ea) rfl (fun s7 I7 => ?_) (.inr hl)
    refine wpAny_mono (hsu (.ref ea) pins _ (σ.set i (some (.ref ea))) _ (D.goes i) I7 (q ea F.He)) (fun fl s8 z => ?_) fun _ _ z => False.elim z
    have go : ∀ {σ' : St} {H'' : Hp} {Q : Unit → Shared → Prop}, Inv (X.held (.ref ea)) pins σ' H'' s8 → (∀ s9, Inv X pins (σ'.set i none) H'' s9 → Q () s9) → wpAny (model X.prog X.w) X.A (do bindName X.env n .none; unbindBehindTheSuite X.env n hp) Q X.xe s8 := fun {σ' H'' Q} I8 k => by
      have I9 := I8.unheld I6.ok
      obtain ⟨m, hm, hl'⟩ := I9.loc
      exact wpAny_nameGoes_keeps (m := m) hl hm (by rw [I6.ok.kind]; rfl) fun h' v hn hs => k _ (I9.goes hN hi hl' hn hs)
    cases fl with
    | next => obtain ⟨σ', H'', I8, q8⟩ := z; exact go I8 fun s9 I9 => ⟨_, _, I9, q8⟩
    | brk => obtain ⟨σ', H'', I8, q8⟩ := z; exact go I8 fun s9 I9 => ⟨_, _, I9, q8⟩
    | cont => obtain ⟨σ', H'', I8, q8⟩ := z; exact go I8 fun s9 I9 => ⟨_, _, I9, q8⟩
    | ret u => obtain ⟨v, σ', H'', I8, r, q8⟩ := z; exact go I8 fun s9 I9 => ⟨v, _, _, I9, r, q8⟩
end
end L2

set_option Elab.async false
set_option linter.all false
set_option maxRecDepth 100000
set_option maxHeartbeats 4000000
namespace L2
open PySem PySem.Spec PyProof.Rows
inductive TryE (K : PySem.W.Frag) (th : TH) (D : Ends) (σ : St) (c : Value) (d : Option Addr) (H2 : Hp) : Prop
  | mk (C : Addr) (e : c = .ref C) (k : excInA K C = true) (q : th C d D σ H2)
section
variable {X : Cx} {k i j : Nat} {f C Dd : Addr} {fd : FuncData} {ps : List Str} {sp : Sp} {x y n z : Str} {p pos hp yp tp cp zp : Pos} {e0 : Expr} {es : List Expr} {ta : TA} {b0 : Stmt} {suite : List Stmt} {tx : TS} {th : TH} {h1 : ExceptHandler} {hs : List ExceptHandler}
end
section
variable {X : Cx}
end
end L2

set_option Elab.async false
set_option linter.all false
set_option maxRecDepth 100000
set_option maxHeartbeats 4000000
namespace L2
open PySem PySem.Spec PyProof.Rows
section
variable {P : Program} {w : World} {K : PySem.W.Frag} {mg : Str → Option Value} {base : Heap}
theorem Fun.okD {x qual : Str} {st : Stmt} {f : Addr} {fd : FuncData} {N ps : List Str} {k : Nat} {sp : Sp} (F : Fun K x qual st f fd) (S : FnScope N ps (defScope st)) (len : ∀ vs H Q E, sp vs H Q E → vs.length = ps.length)
    (hbody : ∀ (cdv : Value) (A : Around) (outer : List Env) (s : Shared) (H : Hp) (vs : List V) (Q : VK) (E : XK), Room k (A.deeper (envOfC qual (defScope st) s.heap.objs.size f cdv)) → sp vs H Q E →
      ∃ t, PSs (cxOf (CXD P w) P w K mg base N qual (defScope st) f cdv A outer s H E) (defBody st) t ∧ t { nx := fun _ H' => Q .non H', rt := Q } (start N vs) H) : FnOk P w K mg base (CXD P w) (k + 1) f fd ps sp := by
  obtain ⟨oc, od, kV, doc, pm, an, cdv, ct, osl, rfl, lk, hcd⟩ := F.ex
  exact fn_of lk hcd S len fun A outer s H vs Q E hr hsp => hbody cdv A outer s H vs Q E hr hsp
end
inductive DfDE (P : Program) (w : World) (K : PySem.W.Frag) (mg : Str → Option Value) (base : Heap) (x : Str) (ps : List Str) (n : Nat) (sp : Sp) : Prop
  | mk (f : Addr) (fd : FuncData) (k : PySem.W.keepIn K (.ref f) = true) (b : Binds K fd ps []) (m : mg x = some (.ref f)) (G : FnOk P w K mg base (CXD P w) n f fd ps sp)
structure DfD (P : Program) (w : World) (K : PySem.W.Frag) (mg : Str → Option Value) (base : Heap) (x : Str) (ps : List Str) (n : Nat) (sp : Sp) : Prop where
  ex : DfDE P w K mg base x ps n sp
theorem DfD.mk' {P : Program} {w : World} {K : PySem.W.Frag} {mg : Str → Option Value} {base : Heap} {x q : Str} {st : Stmt} {ps : List Str} {n : Nat} {sp : Sp} {f : Addr} {fd : FuncData} (F : Fun K x q st f fd) (b : Binds K fd ps []) (m : mg x = some (.ref f)) (G : FnOk P w K mg base (CXD P w) n f fd ps sp) : DfD P w K mg base x ps n sp := ⟨⟨f, fd, F.kp, b, m, G⟩⟩
inductive In1 (P : Program) (w : World) (K : PySem.W.Frag) (mg : Str → Option Value) (base : Heap) (f : Addr) (ps : List Str) (sp : Sp) : Prop
  | mk (fd : FuncData) (G : FnOk P w K mg base CX0 1 f fd ps sp) (b : Binds K fd ps []) (h : ∃ oI, K.lookup f = some oI ∧ oI.cls = .type "function")
def fkB (K : PySem.W.Frag) (D : Addr) : Bool := excInA K D && (PySem.W.findIn K (.ref D) "__getattribute__" == some (some (.builtin "BaseException.__getattribute__")) && PySem.W.findIn K (.ref D) "__getattr__" == some none)
def xkB (K : PySem.W.Frag) (D : Addr) : Bool := fkB K D && (PySem.W.hasDictIn K D && (PySem.W.findIn K (.ref D) "__class__" == some (some (.builtin "object.__class__")) && (PySem.W.specialIn K (.builtin "object.__class__") "__get__" == some (some (.builtin "getset_descriptor.__get__")) && (PySem.W.takesIn K (.builtin "object.__class__") == some true && PySem.W.mroIn K D (.type "object") == some true))))
def skB (K : PySem.W.Frag) (C : Addr) (f : Str) : Bool := PySem.W.findIn K (.ref C) "__setattr__" == some (some (.builtin "object.__setattr__")) && ((PySem.W.clsIn K C).any (fun cd => overV cd.mro) && ((PySem.W.clsIn K C).any (·.hasDict) && PySem.W.takerIn K C f == some none))
def gkB (K : PySem.W.Frag) (C : Addr) (f : Str) : Bool := fkB K C && (PySem.W.hasDictIn K C && PySem.W.findIn K (.ref C) f == some none)
theorem FKit.of {K : PySem.W.Frag} {D : Addr} (h : fkB K D = true) : FKit K D := by
  simp only [fkB, Bool.and_eq_true, beq_iff_eq] at h
  exact ⟨h.1, h.2.1, h.2.2⟩
theorem XKitA.of {K : PySem.W.Frag} {D : Addr} (h : xkB K D = true) : XKitA K D := by
  simp only [xkB, Bool.and_eq_true, beq_iff_eq] at h
  exact ⟨.of h.1, h.2.1, h.2.2.1, h.2.2.2.1, h.2.2.2.2.1, h.2.2.2.2.2⟩
theorem SKit.of {K : PySem.W.Frag} {D : Addr} {f : Str} (h : skB K D f = true) : SKit K D f := by
  simp only [skB, Bool.and_eq_true, beq_iff_eq] at h
  exact ⟨h.1, h.2.1, h.2.2.1, h.2.2.2⟩
theorem GKit.of {K : PySem.W.Frag} {D : Addr} {f : Str} (h : gkB K D f = true) : GKit K D f := by
  simp only [gkB, Bool.and_eq_true, beq_iff_eq] at h
  exact ⟨.of h.1, h.2.1, h.2.2⟩
def kkB (K : PySem.W.Frag) (c : Nat → Addr) (cB : Addr) (fi : Nat → Addr) : Bool :=
  excInA K cB && ((List.range 7).all (fun i => xkB K (c i) && (PySem.W.kitOne K (.ref (c i)) (.type "ValueError") == some true && (excInA K (c i) && (subIn K (c i) cB && (List.range 7).all (fun j => PySem.W.kitOne K (.ref (c i)) (.ref (c j)) == some (j == i) && subIn K (c i) (c j) == (j == i)))))) &&
    ((List.range 2).all (fun i => excInB K (c i) bmV "ValueError.__new__") && ((List.range 5).all (fun i => ownInI K (c (i + 2)) (fi (i + 2)) && (skB K (c (i + 2)) "at" && gkB K (c (i + 2)) "at")) && (skB K (c 6) "other" && gkB K (c 6) "other"))))
structure Kn (K : PySem.W.Frag) (c : Nat → Addr) (cB : Addr) (fi : Nat → Addr) : Prop where
  exB : excInA K cB = true
  kit : ∀ i, i < 7 → XKitA K (c i)
  ve : ∀ i, i < 7 → PySem.W.kitOne K (.ref (c i)) (.type "ValueError") = some true
  ex : ∀ i, i < 7 → excInA K (c i) = true
  sub : ∀ i, i < 7 → subIn K (c i) cB = true
  one : ∀ i, i < 7 → ∀ j, j < 7 → PySem.W.kitOne K (.ref (c i)) (.ref (c j)) = some (j == i)
  sub2 : ∀ i, i < 7 → ∀ j, j < 7 → subIn K (c i) (c j) = (j == i)
  plain : ∀ i, i < 2 → excInB K (c i) bmV "ValueError.__new__" = true
  own : ∀ i, i < 5 → ownInI K (c (i + 2)) (fi (i + 2)) = true
  sk : ∀ i, i < 5 → SKit K (c (i + 2)) "at"
  gk : ∀ i, i < 5 → GKit K (c (i + 2)) "at"
  sk6 : SKit K (c 6) "other"
  gk6 : GKit K (c 6) "other"
theorem Kn.of {K : PySem.W.Frag} {c : Nat → Addr} {cB : Addr} {fi : Nat → Addr} (h : kkB K c cB fi = true) : Kn K c cB fi := by
  simp only [kkB, Bool.and_eq_true, beq_iff_eq, List.all_eq_true, List.mem_range] at h
  obtain ⟨h0, h1, h2, h3, h4, h5⟩ := h
  exact ⟨h0, fun i hi => .of (h1 i hi).1, fun i hi => (h1 i hi).2.1, fun i hi => (h1 i hi).2.2.1, fun i hi => (h1 i hi).2.2.2.1, fun i hi j hj => ((h1 i hi).2.2.2.2 j hj).1, fun i hi j hj => ((h1 i hi).2.2.2.2 j hj).2, h2, fun i hi => (h3 i hi).1, fun i hi => .of (h3 i hi).2.1, fun i hi => .of (h3 i hi).2.2, .of h4, .of h5⟩
structure Nm (mg : Str → Option Value) (c : Nat → Addr) (cB : Addr) : Prop where
  NoPart : mg "NoPart" = some (.ref (c 0))
  NoDeed : mg "NoDeed" = some (.ref (c 1))
  NoRow : mg "NoRow" = some (.ref (c 2))
  NoFit : mg "NoFit" = some (.ref (c 3))
  NoPatch : mg "NoPatch" = some (.ref (c 4))
  NoText : mg "NoText" = some (.ref (c 5))
  Clash : mg "Clash" = some (.ref (c 6))
  BoughError : mg "BoughError" = some (.ref cB)
def spInit1 (C : Addr) : Sp := fun vs H Q _ => ∃ (ea : Addr) (i : Int), vs = [.ref ea, .int i] ∧ H ea = some (ExcD ea C none) ∧ ∀ dx, H dx = none → dx ≠ ea → Q .non (upd (upd H ea (ExcD ea C (some dx))) dx (XdO dx [("at", .int i)]))
def fldsOf (way : Nat) (one other : Int) : List (Str × V) := if way < 6 then [("at", .int one)] else [("other", .int other), ("at", .int one)]
def HasF (way : Nat) (one other : Int) (d : Option Addr) (H : Hp) : Prop := (way < 2 ∧ d = none) ∨ (2 ≤ way ∧ ∃ dx, d = some dx ∧ H dx = some (XdO dx (fldsOf way one other)))
theorem rai1 {H : Hp} {E : XK} {C : Addr} {i : Int} (l : [V.int i].length ≤ sizeLine) (q : ∀ dx, H dx = none → E (.ref C) (some dx) (upd H dx (XdO dx [("at", .int i)]))) : RaiI (spInit1 C) E C [.int i] H :=
  ⟨l, fun ea he => ⟨ea, i, rfl, upd_same, fun dx h1 n => by
    rw [upd_ne n] at h1
    refine ⟨some dx, upd H dx (XdO dx [("at", .int i)]), rfl, ?_, ?_, fun b hb => ?_, q dx h1⟩
    · rw [upd_ne (Ne.symm n), upd_same]
    · rw [upd_ne (Ne.symm n)]; exact he
    · by_cases z : b = dx
      · rw [z, upd_same, upd_same]
      · rw [upd_ne z, upd_ne z, upd_ne hb, upd_ne hb]⟩⟩
end L2

set_option Elab.async false
set_option linter.all false
set_option maxRecDepth 100000
set_option maxHeartbeats 4000000
namespace L2
open PySem PySem.Spec PyProof.Rows
def stepV : V → Bool
  | .str x => nameB x
  | .int i => decide (0 ≤ i)
  | _ => false
inductive PtA (H : Hp) : V → Option (List V) → Prop
  | no {v : V} {T : String} (t : TyN H v T) (n : isiB T "tuple" = false) : PtA H v none
  | tup {a : Addr} {xs : List V} (h : H a = some (.tup xs)) (l : xs.length ≤ 100) (ts : ∀ x ∈ xs, (∃ T, TyN H x T) ∧ Short x) : PtA H (.ref a) (some xs)
def smallV : V → Bool
  | .str _ => true
  | .int i => decide (i ≤ 20)
  | _ => false
def rpB : Option (List V) → Bool
  | none => false
  | some xs => xs.all stepV && decide (xs.length ≤ 12) && xs.all smallV
def wordsWI : List Str := ["put", "take", "move", "lacks"]
def lastS (xs : List V) : Bool := match xs.getLast? with | some (.str _) => true | _ => false
def mb1 (w : Str) : Option (List V) → Bool
  | none => false
  | some xs => rpB (some xs) && !(inV (.str w) (wordsWI.map V.str) && xs.isEmpty) && (!decide (w = "lacks") || lastS xs)
def lostV (xs ys : List V) : Bool := lastS xs && eqTs (ys.take xs.length) xs && decide (xs.length < ys.length)
def wordsWV : List Str := ["put", "change", "ask"]
def wordsKI : List Str := ["row", "table"]
def kindV : V → Bool
  | .str s => inV (.str s) (wordsKI.map V.str)
  | _ => false
end L2

set_option Elab.async false
set_option linter.all false
set_option maxRecDepth 100000
set_option maxHeartbeats 4000000
namespace L2
open PySem PySem.Spec PyProof.Rows
structure DicK (P : Program) (w : World) (K : PySem.W.Frag) (a : Addr) (kvs : List (Key × V)) : Prop where
  ne : (a == sysModules) = false
  on : ∀ h : Heap, K.In h → ∃ vs, KV kvs vs ∧ h.DictOf (mixKind P w) a vs
inductive DkQ (a : Addr) (kvs : List (Key × V)) (f : Option V → Option V) (x y : V) (H : Hp) (Q : VK) : Prop
  | mk (k : Key) (v : V) (e : x = .ref a) (ey : y = kV k) (g : f (valV kvs k) = some v) (q : Q v H)
def tDInK (a : Addr) (kvs : List (Key × V)) (ty td : TE) : TE := fun σ H Q => ty σ H fun y H1 => td σ H1 fun x H2 => DkQ a kvs (fun o => some (.bl o.isSome)) x y H2 Q
def tDGetK (a : Addr) (kvs : List (Key × V)) (td ty : TE) : TE := fun σ H Q => td σ H fun x H1 => ty σ H1 fun y H2 => DkQ a kvs id x y H2 Q
section
variable {X : Cx} {o i : Expr} {pos : Pos} {td ty : TE} {a : Addr} {kvs : List (Key × V)}
theorem pc_dinK (D : DicK X.prog X.w X.K a kvs) (hi : PE X i ty) (ho : PE X o td) : PC X .In i o (tDInK a kvs ty td) := by
  intro pins s σ H Q I h
  refine thn (hi pins s σ H _ I h) fun iv s1 zq => zq.elim fun y H1 I1 ry q1 => thn (ho pins s1 σ H1 _ I1 q1) fun u s2 ⟨x, H2, I2, rx, k, v, ex, ey, g, q2⟩ => ?_
  subst ex ey
  obtain rfl : u = Value.ref a := rx
  obtain ⟨vs, rel, dd⟩ := D.on _ I2.kIn
  refine wpAny_in_of (kV_is ry) D.ne dd.mapOf ?_
  rw [← (rel.val k).isSome_eq]
  cases g
  exact ⟨.bl (valV kvs k).isSome, H2, I2.tok _, rfl, q2⟩
theorem pe_dgetK (D : DicK X.prog X.w X.K a kvs) (ho : PE X o td) (hi : PE X i ty) (hs : NoSl i) : PE X (.Subscript o i pos) (tDGetK a kvs td ty) := by
  intro pins s σ H Q I h
  refine subD_of PySem.F.slot_dict_getitem.lookup hs (thn (ho pins s σ H _ I h) fun u s1 zq => zq.elim fun x H1 I1 rx q1 => thn (hi pins s1 σ H1 _ I1 q1) fun iv s2 ⟨y, H2, I2, ry, k, v, ex, ey, g, q2⟩ => ?_)
  subst ex ey
  obtain rfl : u = Value.ref a := rx
  obtain ⟨vs, rel, dd⟩ := D.on _ I2.kIn
  obtain ⟨w', hw, rw'⟩ := RelO.some_of (v := v) (o := valueAt vs k) (by rw [← g]; exact rel.val k)
  exact ⟨dd.typeIs, wpAny_getItem_of (kV_is ry) dd.mapOf hw ⟨v, H2, I2.tok _, rw', q2⟩⟩
end
def lens : List (Key × V) := [(.inr "put", .int 3), (.inr "take", .int 2), (.inr "change", .int 3), (.inr "move", .int 3), (.inr "copy", .int 3), (.inr "ask", .int 3), (.inr "has", .int 2), (.inr "lacks", .int 2), (.inr "is", .int 3)]
theorem lens_int {k : Key} {v : V} (h : valV lens k = some v) : ∃ i, v = .int i := by
  obtain ⟨kv, hf, rfl⟩ := Option.map_eq_some_iff.mp h
  have := List.mem_of_find?_eq_some hf
  simp only [lens, List.mem_cons, List.not_mem_nil, or_false] at this
  rcases this with rfl | rfl | rfl | rfl | rfl | rfl | rfl | rfl | rfl <;> exact ⟨_, rfl⟩
def formB : Option (List V) → Bool
  | some (.str w :: r) => match valV lens (.inr w) with | some (.int k) => decide (((r.length + 1 : Nat) : Int) = k) | _ => false
  | _ => false
inductive RwA (H : Hp) : V → Option (List V) → Prop
  | no {v : V} {T : String} (t : TyN H v T) (n : isiB T "tuple" = false) : RwA H v none
  | tup {a : Addr} {xs : List V} (h : H a = some (.tup xs)) (l : xs.length ≤ 100) (ts : ∀ x, xs.head? = some x → ∃ T, TyN H x T) : RwA H (.ref a) (some xs)
theorem dicK_of {P : Program} {w : World} {K : PySem.W.Frag} {a : Addr} {ob : Obj} {es : Array DictEntry} {ep : Nat} {kvs : List (Key × V)} {vs : List (Key × Value)} (l : K.lookup a = some ob) (ne : (a == sysModules) = false) (ex : ob.ExactDict) (d : ob.data = .dict es ep)
    (k : KeysOf (mixKind P w) es) (p : Pairs (mixKind P w) es.toList vs) (nd : (vs.map (·.1)).Nodup) (kv : KV kvs vs) : DicK P w K a kvs := ⟨ne, fun _ X => ⟨vs, kv, ob, es, ep, X _ _ l, ex, d, k, p, nd⟩⟩
def entsOf (P : Program) (w : World) (xs : List (Str × Int × Tok × Tok)) : List DictEntry := xs.map fun x => ⟨(mixKind P w).hash (.inr x.1), .str x.1 x.2.2.1, .int x.2.1 x.2.2.2⟩
theorem dicK_strs {P : Program} {w : World} {K : PySem.W.Frag} {a : Addr} {ob : Obj} {ep : Nat} (xs : List (Str × Int × Tok × Tok)) (l : K.lookup a = some ob) (ne : (a == sysModules) = false) (ex : ob.ExactDict) (d : ob.data = .dict (entsOf P w xs).toArray ep)
    (nd : (xs.map (·.1)).Nodup) : DicK P w K a (xs.map fun x => ((.inr x.1 : Key), V.int x.2.1)) := by
  refine dicK_of (vs := xs.map fun x => ((.inr x.1 : Key), Value.int x.2.1 x.2.2.2)) l ne ex d (fun e he => ?_) ?_ ?_ ?_
  · obtain ⟨x, hx, rfl⟩ := List.mem_map.mp (show e ∈ entsOf P w xs by simpa using he)
    exact ⟨.inr x.1, by show decide _ = true; simp, rfl⟩
  · show Pairs _ (entsOf P w xs) _
    clear d nd
    induction xs with
    | nil => exact .nil
    | cons x r ih => exact .cons (by show decide _ = true; simp) rfl ih
  · rw [List.map_map]
    have : (xs.map ((fun y : Key × Value => y.1) ∘ fun x => ((.inr x.1 : Key), Value.int x.2.1 x.2.2.2))) = (xs.map (·.1)).map Sum.inr := by rw [List.map_map]; rfl
    rw [this]
    exact List.pairwise_map.mpr (List.Pairwise.imp (fun h e => h (Sum.inr.inj e)) nd)
  · clear d nd
    induction xs with
    | nil => exact .nil
    | cons x r ih => exact .cons ⟨rfl, ⟨_, rfl⟩⟩ ih
end L2

set_option Elab.async false
set_option linter.all false
set_option maxRecDepth 100000
set_option maxHeartbeats 4000000
namespace L2
open PySem PySem.Spec PyProof.Rows
section
variable {prog : Program} {w : World} {A : Around} {E : Value → Shared → Prop} {s : Shared}
end
section
variable {prog : Program} {w : World} {A : Around} {s : Shared} {R : Result → Shared → Prop} {xs ys : Array Value}
end
section
variable {prog : Program} {w : World} {A : Around} {E : Value → Shared → Prop} {s : Shared} {xs ys : Array Value}
end
section
variable {X : Cx} {pins : List (Addr × Obj)} {σ : St} {H : Hp} {s : Shared}
end
end L2

set_option Elab.async false
set_option linter.all false
set_option maxRecDepth 100000
set_option maxHeartbeats 4000000
namespace L2
open PySem PySem.Spec PyProof.Rows
section
variable {prog : Program} {w : World} {A : Around} {E : Value → Shared → Prop} {s : Shared}
end
end L2

set_option Elab.async false
set_option linter.all false
set_option maxRecDepth 100000
set_option maxHeartbeats 4000000
namespace L2
open PySem PySem.Spec PyProof.Rows
open PySem.AutoSeq1 (wpAny_loadPart')
open PySem.MeetsSeq3
section
variable {prog : Program} {w : World} {A : Around} {s : Shared}
end
end L2

set_option Elab.async false
set_option linter.all false
set_option maxRecDepth 100000
set_option maxHeartbeats 4000000
namespace L2
open PySem PySem.Spec PyProof.Rows
open PySem.AutoSeq1 (wpAny_loadPart')
open PySem.MeetsSeq3
inductive TK where
  | s (x : Str)
  | o
  | e
inductive Tny (H : Hp) : V → TK → Prop
  | str {x : Str} (l : txtB x = true) : Tny H (.str x) (.s x)
  | one {a : Addr} (h : H a = some (.lst [.int 1])) : Tny H (.ref a) .o
  | emp {a : Addr} (h : H a = some (.dK [])) : Tny H (.ref a) .e
def wrds : List Str := ["put", "take", "change", "move", "copy", "ask", "has", "lacks", "is"]
def wrd (j : Nat) : Str := wrds.getD j ""
def thr (j : Nat) : Nat := [2, 0, 2, 1, 1, 2, 0, 0, 1].getD j 0
section
variable (C : Addr) (w f : Str) (vs : List V) (H : Hp) (Q : VK)
end
inductive RowG (H : Hp) (a : Addr) (j : Nat) (y : V) : List V → Prop
  | one (t : thr j = 0) (h : H a = some (.tup [.str (wrd j), y])) : RowG H a j y []
  | two {z : V} (t : thr j = 1) (h : H a = some (.tup [.str (wrd j), y, z])) : RowG H a j y [z]
  | val {z : V} {k : TK} (t : thr j = 2) (h : H a = some (.tup [.str (wrd j), y, z])) (tn : Tny H z k) : RowG H a j y [z]
section
variable {prog : Program} {w : World} {A : Around} {s : Shared}
end
end L2
namespace L2
open PySem PySem.Spec PyProof.Rows
end L2
namespace L2
open PySem PySem.Spec PyProof.Rows
end L2
namespace L2
open PySem PySem.Spec PyProof.Rows
end L2
namespace L2
open PySem PySem.Spec PyProof.Rows
end L2
namespace L2
open PySem PySem.Spec PyProof.Rows
end L2
namespace L2
open PySem PySem.Spec PyProof.Rows
end L2
namespace L2
open PySem PySem.Spec PyProof.Rows
end L2
namespace L2
open PySem PySem.Spec PyProof.Rows
end L2
namespace L2
open PySem PySem.Spec PyProof.Rows
end L2
namespace L2
open PySem PySem.Spec PyProof.Rows
def W2 (w : Str) : Prop := w = "take" ∨ w = "has" ∨ w = "lacks"
end L2
namespace L2
open PySem PySem.Spec PyProof.Rows
end L2
namespace L2
open PySem PySem.Spec PyProof.Rows
theorem passND {P : Program} {w : World} {X : Cx} : Passes (CXD P w) X E0 := fun _ _ _ _ _ _ _ h => by
  obtain ⟨_, _, _, _, _, _, _, _, _, _, q⟩ := h
  exact False.elim q
end L2

set_option Elab.async false
set_option linter.all false
set_option maxRecDepth 100000
set_option maxHeartbeats 4000000
namespace L2
open PySem PySem.Spec PyProof.Rows
theorem entry_unchain : entryFor table "proto.unchain" = some Builtin.«proto.unchain» := entryFor_of_fast (by kernel_rfl)
theorem wpAny_updateField {M : Model} {A : Around} {E : Value → Shared → Prop} {s : Shared} {a : Addr} {o : Obj} {vs} {i : Nat} {x : Value} {Q : Unit → Shared → Prop} (ho : s.heap.get? a = some o)
    (hd : o.data = .fields vs) (hi : i < vs.size) (h : Q () { s with heap := s.heap.update a (Obj.mapFields (·.setIfInBounds i x)) }) : wpAny M A (updateField a i x) Q E s := wpAny_setField ho hd hi h
section
variable {prg : Program} {wd : World} {Ar : Around} {Ex : Value → Shared → Prop} {env : Env}
variable {nm qn : Str} {C N : Addr} {bs tl : List Value} {hdc : Bool} {sn : List Str} {sb : List Value} {ab : Bool} {cl : Option Bool} {dd : Option Addr} {k0 k1 k2 k3 k5 : Option Value} {newId : String}
theorem raise_anyN {s : Shared} {t c : Sem Value} {Q : Flow → Shared → Prop} {ea : Addr} (hcw : ∀ {s' : Shared} {Q' : Value → Shared → Prop}, Q' .none s' → wpAny (model prg wd) Ar c Q' Ex s') (hb : tl.contains (.type "BaseException") = true) (hh : Ar.handled = some (.ref ea))
    (h : wpAny (model prg wd) Ar t (fun v s1 => ∃ e oe, v = .ref e ∧ s1.heap.get? C = some (excClassObj nm qn C N bs tl hdc sn sb ab cl dd k0 k1 k2 k3 k5 newId) ∧ s1.heap.get? e = some oe ∧ oe.cls = .ref C ∧ e ≠ ea ∧ (∃ oa va, s1.heap.get? ea = some oa ∧ oa.data = .fields va ∧ va[2]? = some .none) ∧
      ∃ t, oe.data = .fields #[.ref t, .none, .none, .none, .bool false, .none] ∧ ∀ h', h'.get? e = some { oe with data := .fields #[.ref t, .none, .ref ea, .none, .bool true, .none] } → (∀ b, b ≠ e → h'.get? b = s1.heap.get? b) → Ex (.ref e) { s1 with heap := h' }) Ex s) :
    wpAny (model prg wd) Ar (raiseStmt env (some t) (some c)) Q Ex s := by
  have hcB : (Value.ref C :: tl).contains (.type "BaseException") = true := by rw [List.contains_cons, hb, Bool.or_true]
  unfold raiseStmt
  refine wpAny_bind (wpAny_mono h (fun v s1 z => ?_) fun _ _ x => x)
  obtain ⟨e, oe, rfl, hC, he, hc, ne, ⟨oa, va, ha, hda, h2⟩, t0, hd, hE⟩ := z
  obtain ⟨oc, od, odt, osl⟩ := oe
  dsimp only at hc hd
  subst hc hd
  obtain ⟨hp, g, d, tk, os⟩ := s1
  repeat (first | with_reducible refine hcw ?_ | with_reducible refine wpAny_loadPart_at he ?_ | with_reducible refine wpAny_loadPart_at hC ?_ | (with_reducible refine wpAny_isSubtype_exc hC ?_; rw [hcB]) | wp_step)
  have nC : C ≠ e := fun z => by
    rw [z, he] at hC
    cases hC
  obtain ⟨H2, e2, x1, x2⟩ : ∃ H2, (hp.update e (Obj.mapFields fun x => x.setIfInBounds 3 Value.none)).update e (Obj.mapFields fun x => x.setIfInBounds 4 (Value.bool true)) = H2 ∧ H2.get? e = some { cls := .ref C, dict := od, data := .fields #[.ref t0, .none, .none, .none, .bool true, .none], slots := osl } ∧ ∀ b, b ≠ e → H2.get? b = hp.get? b := by
    refine ⟨_, rfl, ?_, fun b hb => ?_⟩
    · rw [Heap.get?_update_self (o := Obj.mapFields (fun x => x.setIfInBounds 3 Value.none) { cls := .ref C, dict := od, data := .fields #[.ref t0, .none, .none, .none, .bool false, .none], slots := osl }) _ (Heap.get?_update_self _ he rfl) rfl]
      rfl
    · rw [Heap.get?_update_ne _ _ _ _ hb, Heap.get?_update_ne _ _ _ _ hb]
  rw [e2]
  clear e2
  have hC2 := (x2 C nC).trans hC
  have ha2 := (x2 ea (Ne.symm ne)).trans ha
  repeat (first | with_reducible refine wpAny_loadPart_at x1 ?_ | with_reducible refine wpAny_loadPart_at hC2 ?_ | wp_step)
  unfold raiseNew
  refine wpAny_bind (wpAny_handled ?_)
  rw [hh]
  have nb : (Value.ref ea != Value.ref e) = true := by
    rw [bne_iff_ne]
    exact fun z => ne (by injection z with z; exact z.symm)
  have hu : wpAny (model prg wd) Ar (runValue (.builtin "proto.unchain" ⟨[.ref e, .ref ea, .ref ea, .bool false], []⟩)) (fun _ s' => s' = { heap := H2, gens := g, drawn := d, toks := tk, os := os }) Ex { heap := H2, gens := g, drawn := d, toks := tk, os := os } := by
    refine wpAny_runValue (codeAny_builtin entry_unchain ?_)
    unfold Builtin.«proto.unchain»
    refine wpAny_bind (wpAny_field ha2 hda h2 ?_)
    simp only [beq_self_eq_true, if_true]
    exact wpAny_pure rfl
  dsimp only
  rw [if_pos nb]
  refine wpAny_bind (wpAny_holding (wpAny_mono hu (fun _ s' z => ?_) fun _ _ y => y))
  subst z
  refine wpAny_bind (wpAny_updateField x1 rfl (show 2 < 6 by decide) (wpAny_throw ?_))
  exact hE _ (by rw [Heap.get?_update_self _ x1 rfl]; rfl) fun b hb => by rw [Heap.get?_update_ne _ _ _ _ hb]; exact x2 b hb
theorem raise_ownN {s : Shared} {bmB : List Value} {B initId : String} (F : ExcBaseFacts B newId initId bmB) {mN : Str → Option Value} {fI ea : Addr} {x : Str} {np cpos pos zp : Pos} {zk : Nat} {args : List Expr} {Q : Flow → Shared → Prop}
    (hb : tl.contains (.type "BaseException") = true) (hh : Ar.handled = some (.ref ea)) (hpl : (backTo cpos (starEach args env)).any (·.1) = false) (hi : mN "__init__" = some (.ref fI))
    (h : wpAny (model prg wd) Ar (eval (.Name x np) env) (fun f s1 => f = .ref C ∧ wpAny (model prg wd) Ar (evalArgs (.ref C) true (backTo cpos (starEach args env)) [])
      (fun a s2 => a.kw = [] ∧ a.pos.length ≤ sizeLine ∧ s2.heap.get? C = some (excClassObj nm qn C N bs tl hdc sn sb ab cl dd k0 k1 k2 k3 k5 newId) ∧ s2.heap.Ns N mN ∧ OwnTail s2.heap bmB tl ∧ (∃ oI, s2.heap.get? fI = some oI ∧ oI.cls = .type "function") ∧
        ∀ h' e, Heap.MadeExcOf s2.heap h' e (.ref C) a.pos → wpAny (model prg wd) (Ar.under (.builtin "type.__call__" ⟨.ref C :: a.pos, []⟩)) (call (.ref fI) (.ref e :: a.pos))
          (fun r s' => r = .none ∧ s'.heap.get? C = some (excClassObj nm qn C N bs tl hdc sn sb ab cl dd k0 k1 k2 k3 k5 newId) ∧ ∃ oe, s'.heap.get? e = some oe ∧ oe.cls = .ref C ∧ e ≠ ea ∧ (∃ oa va, s'.heap.get? ea = some oa ∧ oa.data = .fields va ∧ va[2]? = some .none) ∧ ∃ t, oe.data = .fields #[.ref t, .none, .none, .none, .bool false, .none] ∧
            ∀ h', h'.get? e = some { oe with data := .fields #[.ref t, .none, .ref ea, .none, .bool true, .none] } → (∀ b, b ≠ e → h'.get? b = s'.heap.get? b) → Ex (.ref e) { s' with heap := h' }) Ex { s2 with heap := h' }) Ex s1) Ex s) :
    wpAny (model prg wd) Ar (exec (.Raise (some (.Call (.Name x np) args [] cpos)) (some (.Constant .none zk zp)) pos) env) Q Ex s := by
  rw [arm_exec_Raise]
  simp only [evalOpt, Option.map]
  refine wpAny_bind (wpAny_standAt (raise_anyN (C := C) (nm := nm) (qn := qn) (N := N) (bs := bs) (tl := tl) (hdc := hdc) (sn := sn) (sb := sb) (ab := ab) (cl := cl) (dd := dd) (k0 := k0) (k1 := k1) (k2 := k2) (k3 := k3) (k5 := k5) (newId := newId) (ea := ea) (fun q => wpAny_bind (wpAny_pure (wpAny_bind (wpAny_standAt (wpAny_pure q))))) hb hh ?_))
  refine wpAny_bind (wpAny_mono (wpAny_Call_ofName (wpAny_mono h (fun f s1 z1 => ?_) fun _ _ y => y)) (fun v s3 z3 => wpAny_bind (wpAny_standAt (wpAny_pure z3))) fun _ _ y => y)
  obtain ⟨rfl, z1⟩ := z1
  unfold callWith
  refine wpAny_bind (wpAny_holding (wpAny_mono z1 (fun a s2 z2 => wpAny_bind (wpAny_standAt ?_)) fun _ _ y => y))
  obtain ⟨apos, akw⟩ := a
  obtain ⟨kw, len, hC, hn, T, ⟨oI, hf, hc⟩, z2⟩ := z2
  obtain rfl : akw = [] := kw
  obtain ⟨hp, g, d, tk, os⟩ := s2
  simp only [hpl]
  refine wpAny_bind (wpAny_keeperOf_exc hC ?_)
  refine wpAny_bind (call_own F T hC hn hi hf hc len fun h' e hm => wpAny_mono (z2 h' e hm) (fun r s' w => ⟨w.1, wpAny_bind (wpAny_holding (wpAny_point (wpAny_pure ?_)))⟩) fun _ _ y => y)
  obtain ⟨_, q1, oe, q2, q3, q4, q5, q6⟩ := w
  exact ⟨e, oe, rfl, q1, q2, q3, q4, q5, q6⟩
end
section
variable {X : Cx} {pins : List (Addr × Obj)} {σ : St} {H : Hp} {s : Shared} {a : Addr}
theorem Inv.touch {h' : Heap} (I : Inv X pins σ H s) (n : H a = none) (n0 : X.s₀.heap.get? a = none) (nl : a ≠ X.env.locals) (nc : ∀ y c, X.env.cells.lookup y = some c → c ≠ a) (np : ∀ p ∈ X.pn ++ pins, p.1 ≠ a) (o : ∀ b, b ≠ a → h'.get? b = s.heap.get? b) : Inv X pins σ H { s with heap := h' } := by
  have keep : ∀ b ob, b ≠ a → s.heap.get? b = some ob → h'.get? b = some ob := fun b ob hb q => (o b hb).trans q
  have lo : ∀ {b ob}, X.s₀.heap.get? b = some ob → b ≠ a := fun e z => by rw [z, n0] at e; cases e
  have cl : ∀ {c : Addr} {v : Option Value}, c ≠ a → s.heap.IsCell c v → h'.IsCell c v := fun hc ⟨ob, q, r⟩ => ⟨ob, keep _ _ hc q, r⟩
  refine ⟨I.ok, I.os, I.bare, ⟨fun b o e n hb hx => keep b o (lo e) (I.base.keep b o e n hb hx), fun b o e n hb hx => ?_, I.base.free, fun b o e hx => ?_, I.base.tups, I.base.frzs, I.base.tbls⟩, ?_, fun y c q => ?_, I.free, I.freeC, fun p hp => ?_, ?_, I.len⟩
  · obtain ⟨sl, e1⟩ := I.base.slot b o e n hb hx
    exact ⟨sl, keep b _ (lo e) e1⟩
  · obtain ⟨o', e1⟩ := I.base.there b o e hx
    exact ⟨o', keep b _ (lo e) e1⟩
  · obtain ⟨m, hm, hl⟩ := I.loc
    obtain ⟨ob, es, ep, ho, r⟩ := hm
    refine ⟨m, ⟨ob, es, ep, keep _ _ (Ne.symm nl) ho, r⟩, fun i x v e1 e2 e3 => ?_⟩
    obtain ⟨u, ru, lk⟩ := hl i x v e1 e2 e3
    refine ⟨u, ru, ?_⟩
    rcases lk with ⟨l1, l2⟩ | ⟨l1, c, l2, l3⟩
    · exact .inl ⟨l1, l2⟩
    · exact .inr ⟨l1, c, l2, cl (nc x c l2) l3⟩
  · obtain ⟨v, z⟩ := I.cell y c q
    exact ⟨v, cl (nc y c q) z⟩
  · obtain ⟨q1, q2, q3, q4, q5⟩ := I.pin p hp
    exact ⟨keep p.1 p.2 (np p hp) q1, q2, q3, q4, q5⟩
  · intro b u q
    refine (I.hok b u q).stay (fun c w hc z => keep c w (fun k => ?_) z) (fun _ z => z) fun _ _ z => z
    rcases hc with rfl | hc
    · rw [k, n] at q; cases q
    · rw [k, n] at hc; cases hc
end
section
variable {X : Cx} {pins : List (Addr × Obj)} {σ : St} {H : Hp} {s : Shared} {E : XK}
theorem leave_madeN {M : Model} {E' : Value → Shared → Prop} {C e0 : Addr} {oe : Obj} {d : Option Addr} {vs : Array Value} (hst : X.stack = X.env :: X.outer) (hfr : X.env.frame = some X.env.locals) (hex : X.ex = []) (I : Inv X pins σ H s)
    (he : s.heap.get? e0 = some oe) (hc : oe.cls = .ref C) (hd : oe.dict = d) (hdat : oe.data = .fields vs) (sz : 1 < vs.size) (h1 : vs[1]? = some .none) (hz : E .none d H) (hH : H e0 = none) (h0 : X.s₀.heap.get? e0 = none) (q : E (.ref C) d H) :
    wpAny M X.A (leaving X.env (.ref e0)) (fun _ s'' => CXD X.prog X.w X.outer X.H₀ X.s₀ E (.ref e0) s'') E' s := by
  have fr : s.heap.FunFrames X.base (X.env :: X.outer) := by rw [← hst]; exact I.stack
  have ub : Un (frs X.outer) [] X.H₀ H X.s₀.heap s.heap := by
    have := I.base
    rw [hex] at this
    exact this
  refine leaveX (s := s) (S := []) (by rw [← hst]; exact I.ok.frames) fr hfr he hdat sz (.inl ⟨h1, rfl⟩) fun h2 T' st n1 n2 n3 => ?_
  rw [← hst] at st
  refine ⟨e0, C, d, H, rfl, I.os, I.bare, ub.stp st (fun b hb => by rw [List.mem_singleton.mp hb]; exact h0) (fun b hb => ?_), I.hok.stp st (fun b hb => by rw [List.mem_singleton.mp hb]; exact hH) I.stkFree,
    FlyD.next hc hd hdat sz (.inr hz) hH h0 I.hok (fun b o z => ub.there b o z (by simp)) n1 ⟨_, he⟩ n2 n3, q⟩
  rcases List.mem_cons.mp (I.stkSub b hb) with z | z
  · right
    rw [z]
    exact Heap.get?_none_of_le I.ok.above
  · exact .inl z
end
def RaisesN (X : Cx) (E : XK) : Prop := ∀ (pins : List (Addr × Obj)) (σ : St) (H : Hp) (s : Shared) (e0 C : Addr) (oe : Obj) (d : Option Addr) (vs : Array Value), Inv X pins σ H s → s.heap.get? e0 = some oe → oe.cls = .ref C → oe.dict = d → oe.data = .fields vs → 1 < vs.size → vs[1]? = some .none → E .none d H → H e0 = none → X.s₀.heap.get? e0 = none → E (.ref C) d H → X.xe (.ref e0) s
theorem raisesN {P : Program} {w : World} {K : PySem.W.Frag} {mg : Str → Option Value} {base : Heap} {N : List Str} {qual : Str} {scope : Scope} {f : Addr} {cd : Value} {A : Around} {outer : List Env} {s : Shared} {H : Hp} {E : XK} : RaisesN (cxOf (CXD P w) P w K mg base N qual scope f cd A outer s H E) E :=
  fun pins σ H1 s1 e0 C oe d vs I he hc hd hdat sz h1 hz hH h0 q => leave_madeN (X := cxOf (CXD P w) P w K mg base N qual scope f cd A outer s H E) rfl rfl rfl I he hc hd hdat sz h1 hz hH h0 q
def OwnN (X : Cx) : Prop := ∀ e : Value, PassesOwnAt (model X.prog X.w) (X.A.mark (some e)) X.A X.env X.xe
theorem ownN {P : Program} {w : World} {K : PySem.W.Frag} {mg : Str → Option Value} {base : Heap} {N : List Str} {qual : Str} {scope : Scope} {f : Addr} {cd : Value} {A : Around} {outer : List Env} {s : Shared} {H : Hp} {E : XK} : OwnN (cxOf (CXD P w) P w K mg base N qual scope f cd A outer s H E) :=
  fun _ => PassesOwnAt.leaving
theorem RoomN.make {k : Nat} {A : Around} (r : RoomN (k + 1) A) (C : Addr) (us : List Value) (kw : List (Str × Value)) : RoomN k (A.under (.builtin "type.__call__" ⟨.ref C :: us, kw⟩)) :=
  ⟨by have := r.dp; rw [make_depth]; lia, by have := r.un; rw [make_units]; lia, by rw [make_guards]; exact r.gd⟩
def PHn (X : Cx) (hs : List ExceptHandler) (t : TH) : Prop :=
  ∀ (pins : List (Addr × Obj)) (s : Shared) (σ : St) (H : Hp) (D : Ends) (h0 : Heap) (ea C T : Addr) (d : Option Addr) (oe : Obj) (vs : Array Value), FlyD False d H h0 s.heap ea C oe vs T → X.s₀.heap.get? ea = none → (∀ p ∈ X.pn ++ pins, p.1 ≠ ea) →
    (∀ h6 : Heap, (∀ b, b ≠ T → h6.get? b = s.heap.get? b) → Entry h6 T .none → Inv X pins σ H { s with heap := h6 }) → excInA X.K C = true → t C d D σ H → wpAny (model X.prog X.w) X.A (handleBy (.ref ea) X.env hs) (SP X pins D) X.xe s
inductive RaiQN (E : XK) (C ea : Addr) (v : V) (H2 : Hp) : Prop
  | mk (d : Option Addr) (H3 : Hp) (e : v = .non) (h : H2 ea = some (ExcD ea C d)) (n : H3 ea = none) (o : ∀ b, b ≠ ea → H3 b = H2 b) (z : E .none d H3) (q : E (.ref C) d H3)
inductive RaiN (sp : Sp) (E : XK) (C : Addr) (vs : List V) (H1 : Hp) : Prop
  | mk (l : vs.length ≤ sizeLine) (q : ∀ ea, H1 ea = none → sp (.ref ea :: vs) (upd H1 ea (ExcD ea C none)) (RaiQN E C ea) E0)
inductive HndN (K : PySem.W.Frag) (Dd : Addr) (ta : TA) (sp : Sp) (E : XK) (C2 C : Addr) (σ : St) (H : Hp) : Prop
  | hit (b : subIn K C Dd = true) (q : ta σ H fun vs H1 => RaiN sp E C2 vs H1) : HndN K Dd ta sp E C2 C σ H
def tHandN (K : PySem.W.Frag) (Dd : Addr) (ta : TA) (sp : Sp) (E : XK) (C2 : Addr) : TH := fun C _ _ σ H => HndN K Dd ta sp E C2 C σ H
section
variable {X : Cx} {k : Nat} {fI C2 Dd : Addr} {fd : FuncData} {ps : List Str} {sp : Sp} {x y : Str} {hp yp np cpos pos zp : Pos} {zk : Nat} {e1 : Expr} {es : List Expr} {ta : TA} {E : XK}
theorem ph_raise (hg : Gl X y) (hm : X.mg y = some (.ref Dd)) (qD : excInA X.K Dd = true) (hex : X.ex = []) (hg2 : Gl X x) (hm2 : X.mg x = some (.ref C2)) (hq : ownInI X.K C2 fI = true)
    (F : FnOkN X.prog X.w X.K X.mg X.base CX0 k fI fd ps sp) (hr : RoomN (k + 1) X.A) (hb : Binds X.K fd ps []) (hfn : ∃ oI, X.K.lookup fI = some oI ∧ oI.cls = .type "function") (hE : RaisesN X E) (hO : OwnN X) (ha : ∀ ea oe, PA (X.heldP ea oe) (e1 :: es) ta)
    (hdb : (y == ("__debug__" : Str)) = false := by decide) (hdb2 : (x == ("__debug__" : Str)) = false := by decide) (he : starEach (e1 :: es) X.env = (false, eval e1 X.env) :: starEach es X.env := by rfl) (hpl : (backTo cpos (starEach es X.env)).any (·.1) = false := by rfl) :
    PHn X [.ExceptHandler (some (.Name y yp)) none [.Raise (some (.Call (.Name x np) (e1 :: es) [] cpos)) (some (.Constant .none zk zp)) pos] hp] (tHandN X.K Dd ta sp E C2) := by
  intro pins s σ H D h0 ea C T d oe vs FF n0 np' mk qC h
  obtain ⟨hh, gg, dr, tk, os⟩ := s
  have I5 := mk hh (fun _ _ => rfl) FF.ent
  have KX := I5.ok.mod.kin
  obtain ⟨tl, N, nm, qn, bs, hdct, sn, sub, ab, col, dd, k0, k1, k2, k3, k5, hC, _⟩ := cls_any KX qC
  obtain ⟨tl', N', nm', q', bs', hdct', sn', sub', ab', col', dd', k0', k1', k2', k3', k5', hD, hB⟩ := cls_any KX qD
  refine wpAny_handleBy_cons (codeAny_handlers_test (ld_glob (X := X.held (.ref ea)) (I5.held _) hg hm ?_ hdb)) (by intro z; cases z)
  obtain ⟨b, q⟩ := h
  refine excMatches_own (M := model X.prog X.w) (A := (X.held (.ref ea)).A) (I5.bk _ _ hC) (I5.bk _ _ hD) FF.at_ FF.cls hB (sub_baseA KX qC hC b) ?_
  refine codeAny_handlers_suite (landX FF.at_ FF.data FF.one FF.ent fun h6 k1 k2 => ?_)
  have I6 := mk h6 k1 k2
  have e6 : h6.get? ea = some oe := (k1 ea (Ne.symm FF.ne)).trans FF.at_
  have v2 : vs[2]? = some .none := FF.two.elim id False.elim
  refine wpAny_mono (Q := fun _ _ => False) (E := X.xe) ?_ (fun _ _ z => False.elim z) (hO (.ref ea))
  refine wpAny_execs_cons (wpAny_mono (Q := fun _ _ => False) (E := X.xe) ?_ (fun _ _ z => False.elim z) fun _ _ z => z)
  have nl : ea ≠ X.env.locals := fun z => by
    obtain ⟨m, ⟨o, es, ep, ho, hd, _⟩, _⟩ := I6.loc
    rw [← z, e6] at ho
    cases ho
    rw [FF.data] at hd
    cases hd
  have nf : ea ∉ X.fs := fun z => by
    obtain ⟨_, o, ho, hn⟩ := I6.funs.mem z
    rw [e6] at ho
    cases ho
    exact hn vs FF.data
  have J6 := I6.heldP (ea := ea) (oe := oe) e6 FF.He nl nf (fun v z => by rw [FF.data] at z; cases z)
  obtain ⟨tl, N, nm, qn, bs, hdct, sn, sub, ab, col, dd, k0, k1', k2', k3, k5, mN, hC, hN, hni, TT⟩ := own_inI I6.ok.mod.kin hq
  refine raise_ownN (C := C2) (nm := nm) (qn := qn) (N := N) (bs := bs) (tl := tl) (hdc := hdct) (sn := sn) (sb := sub) (ab := ab) (cl := col) (dd := dd) (k0 := k0) (k1 := k1') (k2 := k2') (k3 := k3) (k5 := k5) (ea := ea)
    PySem.F.excBase_ValueError (mN := mN) (TT.hasType kd3) rfl (by rw [he]; exact hpl) hni (ld_glob (X := X.heldP ea oe) J6 hg2 hm2 ⟨rfl, ?_⟩ hdb2)
  have key := ha ea oe cpos pins _ σ H _ J6 q
  have he' : starEach (e1 :: es) (X.heldP ea oe).env = (false, eval e1 X.env) :: starEach es X.env := he
  rw [he'] at key
  rw [he]
  refine Calls.evalArgs_plain (wpAny_mono key (fun us s1 h1 => ?_) fun _ _ y => False.elim y)
  obtain ⟨vs1, H1, I1, r, hl, q1⟩ := h1
  obtain ⟨oI, lk, hcI⟩ := hfn
  have pin1 := (I1.pin (ea, oe) (List.mem_append_left _ List.mem_cons_self)).1
  refine ⟨rfl, by rw [← r.length]; exact hl, I1.bk _ _ hC, hN.keeps I1.bk, TT.keeps I1.bk, ⟨oI, I1.kIn _ _ lk, hcI⟩, fun h' e2 hmk => ?_⟩
  have e2ea : e2 ≠ ea := fun z => by rw [z] at hmk; have := hmk.new; rw [pin1] at this; cases this
  have n0' : X.s₀.heap.get? e2 = none := by
    cases z : X.s₀.heap.get? e2 with
    | none => rfl
    | some o =>
      obtain ⟨o', e'⟩ := I1.base.there e2 o z (by show e2 ∉ X.ex; rw [hex]; simp)
      rw [hmk.new] at e'
      cases e'
  have hH : H1 e2 = none := I1.hok.none_of hmk.new
  obtain ⟨t, ht, _, _⟩ := hmk.there
  have I2 : Inv (X.heldP ea oe) pins σ H1 { s1 with heap := h' } := I1.call' (ch := []) (s' := { s1 with heap := h' }) rfl (Un.kept hmk.keeps) (I1.hok.kept hmk.keeps) I1.bare (fun b z => absurd z (by simp))
  have nl2 : e2 ≠ X.env.locals := fun z => by
    obtain ⟨m, ⟨o, es, ep, ho, hd, _⟩, _⟩ := I1.loc
    have ho : s1.heap.get? X.env.locals = some o := ho
    rw [← z, hmk.new] at ho
    cases ho
  have np2 : ∀ p ∈ (X.heldP ea oe).pn ++ pins, p.1 ≠ e2 := fun p hp z => by
    have := (I1.pin p hp).1
    rw [z, hmk.new] at this
    cases this
  have nc2 : ∀ y c, X.env.cells.lookup y = some c → c ≠ e2 := fun y c hyc z => by
    obtain ⟨v, o, ho, _⟩ := I1.cell y c hyc
    rw [z, hmk.new] at ho
    cases ho
  have I3 : Inv (X.heldP ea oe) pins σ (upd H1 e2 (ExcD e2 C2 none)) { s1 with heap := h' } := I2.adoptO (u := ExcD e2 C2 none) ht ⟨⟨_, t, ht, rfl, rfl, rfl⟩, ⟨_, ht⟩, fun g1 g2 ⟨o', t', z1, z2⟩ kk => ⟨o', t', kk o' z1, z2⟩⟩ hH n0' nl2 (fun v z => nomatch z) np2
  have rr : Vals (V.ref e2 :: vs1) (Value.ref e2 :: us) := .cons rfl r
  have q2 := q1 e2 hH
  have bd := hb { s1 with heap := h' } (Value.ref e2 :: us) I3.kIn (by rw [List.append_nil, ← rr.length]; exact F.len _ _ _ _ q2)
  rw [List.append_nil] at bd
  have hrm : RoomN (k + 1) (X.A.mark (some (.ref ea))) := ⟨hr.dp, hr.un, hr.gd⟩
  refine wpAny_call (codeAny_mono (F.run _ X.stack _ _ ⟨Value.ref e2 :: us, []⟩ _ _ _ _ (hrm.make C2 us []) (I3.env0.make C2 us []) bd rr q2) fun r' s' hq' => ?_)
  cases r' with
  | error e => exact False.elim hq'
  | ok fl =>
    cases fl with
    | next => exact False.elim hq'
    | brk => exact False.elim hq'
    | cont => exact False.elim hq'
    | ret u =>
      obtain ⟨v, H2, I4, rv, z⟩ := I3.after hq'
      obtain ⟨d3, H3, rfl, h2, n3, o3, hz, qE⟩ := z
      obtain ⟨⟨oe2, t', he2, hc', hd', hdat⟩, _⟩ := I4.hok _ _ h2
      have pin4 := (I4.pin (ea, oe) (List.mem_append_left _ List.mem_cons_self)).1
      refine ⟨rv, I4.bk _ _ hC, oe2, he2, hc', e2ea, ⟨oe, vs, pin4, FF.data, v2⟩, t', hdat, fun h9 g1 g2 => ?_⟩
      have I5' := (I4.drop h2 n3 o3).touch (a := e2) (h' := h9) n3 n0' nl2 nc2 np2 g2
      have I9 := I5'.unheldP I6.ok
      exact hE pins σ H3 _ e2 C2 _ d3 _ I9 g1 hc' hd' rfl (show 1 < 6 by decide) rfl hz n3 n0' qE
end
abbrev TX := St → Hp → VK → XK → Prop
inductive OutX (X : Cx) (pins : List (Addr × Obj)) (σ : St) (E : XK) (ex : Value) (s' : Shared) : Prop
  | mk (H1 : Hp) (s1 : Shared) (I : Inv X pins σ H1 s1) (h : CXD X.prog X.w X.stack H1 s1 E ex s')
def PEX (X : Cx) (e : Expr) (t : TX) : Prop := ∀ (pins : List (Addr × Obj)) (s : Shared) (σ : St) (H : Hp) (Q : VK) (E : XK), Inv X pins σ H s → t σ H Q E → wpAny (model X.prog X.w) X.A (eval e X.env) (EP X pins σ Q) (OutX X pins σ E) s
section
variable {X : Cx} {k j : Nat} {f C : Addr} {fd : FuncData} {ps : List Str} {sp : Sp} {x z : Str} {p pos cp zp tp : Pos} {e0 e : Expr} {es : List Expr} {ta : TA} {th : TH} {h1 : ExceptHandler} {hs : List ExceptHandler} {tx : TX}
theorem px_call (F : FnOk X.prog X.w X.K X.mg X.base (CXD X.prog X.w) k f fd ps sp) (hr : Room k X.A) (hg : Gl X x) (hm : X.mg x = some (.ref f)) (hk : PySem.W.keepIn X.K (.ref f) = true) (hb : Binds X.K fd ps []) (ha : PA X.nox (e0 :: es) ta)
    (hdb : (x == ("__debug__" : Str)) = false := by decide) (he : starEach (e0 :: es) X.env = (false, eval e0 X.env) :: starEach es X.env := by rfl) (hpl : (backTo cp (starEach es X.env)).any (·.1) = false := by rfl) :
    PEX X (.Call (.Name x p) (e0 :: es) [] cp) (fun σ H Q E => ta σ H fun vs H1 => sp vs H1 Q E) := by
  intro pins s σ H Q E I h
  refine wpAny_Call_Name_kw (ld_glob I hg hm ?_ hdb)
  refine PySem.W.callWith_K (h₀ := X.base) I.ok.mod.kin hk (wpAny_mono (ha cp pins s σ H _ (I.wish _) h) (fun us s1 zq => zq.elim fun vs H1 I1 r q => ⟨I1.kIn, ?_⟩) fun _ _ z => False.elim z) he hpl
  have J1 : Inv X pins σ H1 s1 := I1.unwish
  have hl : us.length = ps.length := by rw [← r.length]; exact F.len _ _ _ _ q
  have bd := hb s1 us J1.kIn (by rw [List.append_nil]; exact hl)
  rw [List.append_nil] at bd
  refine wpAny_call (codeAny_mono (F.run X.A X.stack s1 H1 ⟨us, []⟩ us vs _ _ hr J1.env0 bd r q) fun r s' hq => ?_)
  cases r with
  | error e => exact ⟨H1, s1, J1, hq⟩
  | ok fl =>
    cases fl with
    | ret u => exact J1.after hq
    | next => exact False.elim hq
    | brk => exact False.elim hq
    | cont => exact False.elim hq
theorem seenX {D : Ends} {pins : List (Addr × Obj)} {σ : St} {E : XK} {ex : Value} {s' : Shared} (hst : X.stack = X.env :: X.outer) (hfr : X.env.frame = some X.env.locals) (hex : X.ex = []) (o : OutX X pins σ E ex s')
    (k : ∀ (s : Shared) (H : Hp) (h0 : Heap) (ea C T : Addr) (d : Option Addr) (oe : Obj) (vs : Array Value), ex = .ref ea → E (.ref C) d H → FlyD (E .none d H) d H h0 s.heap ea C oe vs T → X.s₀.heap.get? ea = none → (∀ p ∈ X.pn ++ pins, p.1 ≠ ea) →
      (∀ h6 : Heap, (∀ b, b ≠ T → h6.get? b = s.heap.get? b) → Entry h6 T .none → Inv X pins σ H { s with heap := h6 }) → wpAny (model X.prog X.w) X.A (handleBy (.ref ea) X.env hs) (SP X pins D) X.xe s) :
    wpAny (model X.prog X.w) X.A (noteFrame ex X.env) (fun _ s₂ => wpAny (model X.prog X.w) X.A (setFlight ex none) (fun _ s₃ => wpAny (model X.prog X.w) X.A (handleBy ex X.env hs) (SP X pins D) X.xe s₃) X.xe s₂) X.xe s' := by
  obtain ⟨H1, s1, J1, hq⟩ := o
  refine seenD hst hfr J1 hq fun ea C d H' h5 oe vs T ee q F mk => ?_
  subst ee
  have n0 : X.s₀.heap.get? ea = none := by
    cases z : X.s₀.heap.get? ea with
    | none => rfl
    | some o =>
      obtain ⟨o', e'⟩ := J1.base.there ea o z (by rw [hex]; simp)
      rw [F.ne0] at e'
      cases e'
  have np : ∀ p ∈ X.pn ++ pins, p.1 ≠ ea := fun p hp z => by
    have := (J1.pin p hp).1
    rw [z, F.ne0] at this
    cases this
  exact k { s' with heap := h5 } H' s1.heap ea C T d oe vs rfl q F n0 np mk
end
end L2

set_option Elab.async false
set_option linter.all false
set_option maxRecDepth 100000
set_option maxHeartbeats 4000000
namespace L2
open PySem PySem.Spec PyProof.Rows
section
variable {X : Cx} {pins : List (Addr × Obj)} {σ : St} {H H' : Hp} {s s' : Shared} {scope : Scope} {x z : Str} {fv : List Str} {fs : List Nat} {fp : List Addr}
end
section
variable {X : Cx} {elt iter : Expr} {x z : Str} {px pz pt pos : Pos} {kt : Nat} {ifs : List Expr} {scope : Scope} {fv : List Str} {fs : List Nat} {wi : TI} {te : TE} {tc : TT}
end
end L2

set_option Elab.async false
set_option linter.all false
set_option maxRecDepth 100000
set_option maxHeartbeats 4000000
namespace PySem
section
variable {prog : Program} {w : World} {A : Around} {E : Value → Shared → Prop} {s : Shared}
end
end PySem
namespace L2
open PySem PySem.Spec PyProof.Rows
theorem Inv.turned2 {X : Cx} {pins : List (Addr × Obj)} {σ : St} {H : Hp} {s : Shared} {h' : Heap} {t' : Nat} {it jt : Addr} (I : Inv X pins σ H s) (k : ∀ b o, b ≠ it → b ≠ jt → s.heap.get? b = some o → h'.get? b = some o) (f : FpOk X pins H it) (g : FpOk X pins H jt) : Inv X pins σ H { s with heap := h', toks := t' } := by
  obtain ⟨f0, f1, f2, f3, f4, f5⟩ := f
  obtain ⟨g0, g1, g2, g3, g4, g5⟩ := g
  have nit : ∀ b u, H b = some u → b ≠ it ∧ b ≠ jt := fun b u e => ⟨(fun z => by rw [z, f0] at e; cases e), (fun z => by rw [z, g0] at e; cases e)⟩
  have kk : ∀ b o, b ∉ [it, jt] → s.heap.get? b = some o → h'.get? b = some o := fun b o hc e => k b o (fun z => hc (by simp [z])) (fun z => hc (by simp [z])) e
  refine I.step (g' := s.gens) (d' := s.drawn) (ch := [it, jt]) (fun b hb => ?_) (fun b o _ _ hc e _ => kk b o hc e) (fun b o _ _ hc e _ => ⟨o.slots, kk b o hc e⟩) (fun _ _ _ _ n => n)
    (fun b o hc e => ⟨o, kk b o hc e⟩) (fun _ _ e => e) (fun _ _ _ e => e) (fun b ps e => ⟨#[], by rw [e]; simp⟩) (fun m hm => ?_) (fun b u e => ?_) I.bare
  · rcases List.mem_cons.mp hb with rfl | hb
    · exact ⟨f3, f1, f4, f5⟩
    · rw [List.mem_singleton.mp hb]; exact ⟨g3, g1, g4, g5⟩
  · obtain ⟨o, es, ep, ho, r⟩ := hm
    exact ⟨o, es, ep, k _ o (Ne.symm f1) (Ne.symm g1) ho, r⟩
  · refine (I.hok b u e).stay (fun c v hc q => ?_) (fun _ q => q) fun _ _ q => q
    have : c ≠ it ∧ c ≠ jt := by
      rcases hc with z | z
      · rw [z]; exact nit b u e
      · exact nit c _ z
    exact k c v this.1 this.2 q
section
variable {X : Cx} {es : List Expr} {kt : Nat} {pt : Pos}
theorem b_enumerate : bootBuiltins "enumerate" = some (.type "enumerate") := by decide +kernel
end
end L2

set_option Elab.async false
set_option linter.all false
set_option maxRecDepth 100000
set_option maxHeartbeats 4000000
namespace L2
open PySem PySem.Spec PyProof.Rows
def IteL (K : PySem.W.Frag) (a : Addr) : It :=
  ⟨fun i H => ∃ xs x, SqL K H a xs ∧ xs[i]? = some x, fun i H v H' => ∃ T x, (∀ xs, SqL K H a xs → xs[i]? = some x) ∧ v = .ref T ∧ H T = none ∧ H' = upd H T (.tup [.int (i : Int), x]), fun i H => ∃ xs, SqL K H a xs ∧ xs.length = i⟩
theorem turn_enumL {P : Program} {w : World} {K : PySem.W.Frag} {es : List Expr} {kt : Nat} {pt : Pos} (a e it : Addr) (ne : e ≠ it) : Turn P w K (.Tuple es kt pt) (IteL K a) [e, it] e (fun i h => (∃ old, IsEnum h e it (i : Nat) old) ∧ h.IsListIter it a i) where
  mem := by simp
  obj := fun i h st b hb => by
    rcases List.mem_cons.mp hb with rfl | hb
    · obtain ⟨⟨old, x⟩, _⟩ := st
      exact ⟨_, x, fun v z => by cases z⟩
    · rw [List.mem_singleton.mp hb]
      obtain ⟨_, o, x, _, d⟩ := st
      exact ⟨o, x, fun v z => by rw [d] at z; cases z⟩
  keep := fun i h h' st k => ⟨let ⟨old, x⟩ := st.1; ⟨old, k e (by simp) _ x⟩, st.2.at fun o x => k it (by simp) o x⟩
  item := by
    intro X hP hw hK hc i pins s σ H E I hf st hg
    subst hP hw hK
    obtain ⟨xs, x, hq, hx⟩ := hg
    obtain ⟨its, rv, p, hz⟩ := I.list hq
    obtain ⟨u, hu, ru⟩ := rv.get hx
    obtain ⟨⟨old, he⟩, hit⟩ := st
    have ht : s.heap.IsList a its.toArray := p.isList
    have nai : a ≠ it := fun z => by
      obtain ⟨o, h1, h2, _⟩ := ht
      obtain ⟨o', g1, g2, _⟩ := hit
      rw [z, g1] at h1
      cases h1
      rw [g2] at h2
      exact absurd (Value.type.inj h2) (by decide)
    have nae : a ≠ e := fun z => by
      obtain ⟨o, h1, h2, _⟩ := ht
      rw [z, he] at h1
      cases h1
      exact absurd (Value.type.inj h2) (by decide)
    have hlt : i < its.toArray.size := by
      have := (List.getElem?_eq_some_iff.mp hu).1
      simpa using this
    refine wpAny_pyNext_enum_itemD (Draws.list (A := X.A.in1) (I.ok.hd hc) it a nai its.toArray) he ⟨hit, ht⟩ hlt ne (by simp [ne, Ne.symm nae]) fun y h1 tk hy ho hs1 hT hsz hk => ?_
    have ey : y = u := by
      have hy' : its.toArray[i]? = some y := hy
      rw [List.getElem?_toArray] at hy'
      rw [hu] at hy'
      exact (Option.some.inj hy').symm
    subst ey
    refine ⟨_, rfl, wpAny_letOwnedTupleGo_enum ho fun h2 he2 hs2 => ?_⟩
    have le : e < s.heap.objs.size := Heap.lt_size he
    have li : it < s.heap.objs.size := by obtain ⟨o, g1, _⟩ := hit; exact Heap.lt_size g1
    have nT : ∀ b ∈ [e, it], b ≠ s.heap.objs.size := fun b hb => by
      rcases List.mem_cons.mp hb with rfl | hb
      · exact Nat.ne_of_lt le
      · rw [List.mem_singleton.mp hb]; exact Nat.ne_of_lt li
    have I1 : Inv X pins σ (upd H s.heap.objs.size (.tup [.int (i : Int), x])) { s with heap := s.heap.push { cls := .type "tuple", data := .seq #[.int i tk, y] }, toks := tk + 1 } :=
      I.laid (fun b o q => Heap.get?_push_of_some _ q) (Nat.le_refl _) ⟨two_line, [.int i tk, y], .cons ⟨tk, rfl⟩ (.cons ru .nil), ⟨_, Heap.get?_push_size _ rfl, rfl, _, rfl⟩⟩
    have ff : ∀ b ∈ [e, it], FpOk X pins (upd H s.heap.objs.size (.tup [.int (i : Int), x])) b := fun b hb => ⟨by rw [upd_ne (nT b hb)]; exact (hf b hb).1, (hf b hb).2⟩
    have I2 := Inv.turned2 (h' := h2) (t' := tk + 1) (it := e) (jt := it) I1 (fun b o b1 b2 q => by
      refine (hs2.2 b b1).trans ?_
      by_cases hb : b = s.heap.objs.size
      · subst hb
        have q : (s.heap.push { cls := .type "tuple", data := .seq #[.int i tk, y] }).get? s.heap.objs.size = some o := q
        rw [Heap.get?_push_size _ rfl] at q
        rw [hT]
        exact q
      · refine hk b o b1 b2 ?_
        have q : (s.heap.push { cls := .type "tuple", data := .seq #[.int i tk, y] }).get? b = some o := q
        rwa [Heap.get?_push_ne _ _ _ hb] at q) (ff e (by simp)) (ff it (by simp))
    refine ⟨.ref s.heap.objs.size, _, I2, rfl, ⟨_, x, (fun ys hy => by rw [I.list_inj hy hq]; exact hx), rfl, I.fresh, rfl⟩, ⟨⟨y, by simpa using he2⟩, hs1.1.extBut hs2.extBut (Ne.symm ne)⟩, fun b hb => (ff b hb).1⟩
  done := by
    intro X hP hw hK hc i pins s σ H E I hf st hg
    subst hP hw hK
    obtain ⟨xs, hq, hx⟩ := hg
    obtain ⟨its, rv, p, hz⟩ := I.list hq
    obtain ⟨⟨old, he⟩, hit⟩ := st
    have ht : s.heap.IsList a its.toArray := p.isList
    have nai : a ≠ it := fun z => by
      obtain ⟨o, h1, h2, _⟩ := ht
      obtain ⟨o', g1, g2, _⟩ := hit
      rw [z, g1] at h1
      cases h1
      rw [g2] at h2
      exact absurd (Value.type.inj h2) (by decide)
    obtain ⟨f0, f1, f2, f3, f4, f5⟩ := hf it (by simp)
    have hl := rv.length
    have en : i = its.toArray.size := by simp; lia
    exact wpAny_pyNext_enum_endD (Draws.list (A := X.A.in1) (I.ok.hd hc) it a nai its.toArray) he (by rw [← en]; exact ⟨hit, ht⟩) fun h' eb => ⟨rfl, I.turned (t' := s.toks) (fun b o hb q => eb b o hb q) f0 f1 f3 f4 f5⟩
  self := fun _ _ _ _ _ st h => let ⟨_, x⟩ := st.1; wpAny_pyIter_enum x h
section
variable {X : Cx} {es : List Expr} {kt : Nat} {pt : Pos}
def iEnumL (K : PySem.W.Frag) (ta : TA) : TI := fun σ H R => ta σ H fun vs H1 => ∃ a xs, vs = [.ref a] ∧ SqL K H1 a xs ∧ R (IteL K a) H1
theorem pi_enumL {x : Str} {p pos : Pos} {e : Expr} {ta : TA} (hg : Gl X x) (hm : X.mg x = none) (hv : bootBuiltins x = some (.type "enumerate")) (ha : PA X [e] ta) (hn : x ≠ "__name__" := by decide) (hdb : (x == ("__debug__" : Str)) = false := by decide)
    (he : starEach [e] X.env = (false, eval e X.env) :: starEach [] X.env := by rfl) (hpl : (backTo pos (starEach [] X.env)).any (·.1) = false := by rfl) : PI X (.Tuple es kt pt) (.Call (.Name x p) [e] [] pos) (iEnumL X.K ta) := by
  intro pins s σ H R I h
  refine wpAny_Call_Name_kw (ld_blt I hg hm hv ?_ hn hdb)
  refine PyProof.Rows.callWith_type1 (thn (ha pos pins s σ H _ I h) fun us s1 zq => zq.elim fun vs H1 I1 r1 q1 => ?_) he hpl
  obtain ⟨a, xs, rfl, hq, q⟩ := q1
  obtain ⟨u, rfl, ru⟩ := vals1 r1
  cases ru
  obtain ⟨its, rv, pl, hz⟩ := I1.list hq
  refine call_enumerate_list pl.isList fun h1 en ti sz kp => ?_
  refine wpAny_pyIter_enum en ?_
  refine ⟨s1.heap.objs.size + 1, [s1.heap.objs.size + 1, s1.heap.objs.size], _, _, H1, rfl, I1.kept (t' := s1.toks) kp, turn_enumL a _ _ (Nat.succ_ne_self _), ⟨⟨_, en⟩, ti⟩, fun b hb => ?_, q⟩
  have e : s1.heap.objs.size ≤ b := by
    rcases List.mem_cons.mp hb with rfl | hb
    · exact Nat.le_succ _
    · rw [List.mem_singleton.mp hb]; exact Nat.le_refl _
  exact I1.fpOk e (I1.hok.fresh e)
end
theorem for_enumL {K : PySem.W.Frag} {a : Addr} {xs : List V} {g : TG} {tb : TS} {D : Ends} {σ : St} {H : Hp} (Pv : Nat → St → Hp → Prop) (h0 : Pv 0 σ H) (hl : ∀ i σ H, i ≤ xs.length → Pv i σ H → SqL K H a xs)
    (hs : ∀ i x σ H T, xs[i]? = some x → Pv i σ H → H T = none → g (.ref T) σ (upd H T (.tup [.int (i : Int), x])) fun σ2 H2 => tb { D with nx := Pv (i + 1), ct := Pv (i + 1), bk := D.nx } σ2 H2) (hd : ∀ σ H, Pv xs.length σ H → D.nx σ H) :
    ∃ W : Nat → Nat → St → Hp → Prop, (∃ m, W 0 m σ H) ∧ ∀ i m σ H, W i m σ H →
      ((IteL K a).stop i H ∧ D.nx σ H) ∨ ((IteL K a).go i H ∧ ∃ N : St → Hp → Prop, (∀ σ' H', N σ' H' → ∃ m', m' < m ∧ W (i + 1) m' σ' H') ∧ ∀ x H', (IteL K a).yld i H x H' → g x σ H' fun σ2 H2 => tb { D with nx := N, ct := N, bk := D.nx } σ2 H2) := by
  refine ⟨fun i m σ H => m = xs.length - i ∧ i ≤ xs.length ∧ Pv i σ H, ⟨xs.length, by simp, Nat.zero_le _, h0⟩, ?_⟩
  rintro i m σ H ⟨rfl, hi, p⟩
  have q := hl i σ H hi p
  by_cases hlt : i < xs.length
  · refine .inr ⟨⟨xs, xs[i], q, by simp [hlt]⟩, Pv (i + 1), fun σ' H' p' => ⟨xs.length - (i + 1), by lia, rfl, hlt, p'⟩, fun v H' y => ?_⟩
    obtain ⟨T, x, hx, rfl, hT, rfl⟩ := y
    exact hs i x σ H T (hx xs q) p hT
  · have e : i = xs.length := by lia
    subst e
    exact .inl ⟨⟨xs, q, rfl⟩, hd σ H p⟩
end L2

set_option Elab.async false
set_option linter.all false
set_option maxRecDepth 100000
set_option maxHeartbeats 4000000
namespace L2
open PySem PySem.Spec PyProof.Rows
theorem for_enumG {K : PySem.W.Frag} {a : Addr} {xs : List V} {g : TG} {tb : TS} {D : Ends} {σ : St} {H : Hp} (Pv : Nat → St → Hp → Prop) (h0 : Pv 0 σ H) (hl : ∀ i σ H, i ≤ xs.length → Pv i σ H → SqL K H a xs)
    (hs : ∀ i x σ H e T, Go D (Pv (i + 1)) e → xs[i]? = some x → Pv i σ H → H T = none → g (.ref T) σ (upd H T (.tup [.int (i : Int), x])) (tb e)) (hd : ∀ σ H, Pv xs.length σ H → D.nx σ H) :
    ForW (IteL K a) g tb D σ H := for_enumL Pv h0 hl (fun i x σ H T hx hp hT => hs i x σ H _ T ⟨id, id⟩ hx hp hT) hd
inductive In1N (P : Program) (w : World) (K : PySem.W.Frag) (mg : Str → Option Value) (base : Heap) (f : Addr) (ps : List Str) (sp : Sp) : Prop
  | mk (fd : FuncData) (G : FnOkN P w K mg base CX0 1 f fd ps sp) (b : Binds K fd ps [])
end L2
namespace L2
open PySem PySem.Spec PyProof.Rows
theorem raiN1 {H : Hp} {E : XK} {C : Addr} {i : Int} (l : [V.int i].length ≤ sizeLine) (q : ∀ dx, H dx = none → E .none (some dx) (upd H dx (XdO dx [("at", .int i)])) ∧ E (.ref C) (some dx) (upd H dx (XdO dx [("at", .int i)]))) : RaiN (spInit1 C) E C [.int i] H :=
  ⟨l, fun ea he => ⟨ea, i, rfl, upd_same, fun dx h1 n => by
    rw [upd_ne n] at h1
    refine ⟨some dx, upd H dx (XdO dx [("at", .int i)]), rfl, ?_, ?_, fun b hb => ?_, (q dx h1).1, (q dx h1).2⟩
    · rw [upd_ne (Ne.symm n), upd_same]
    · rw [upd_ne (Ne.symm n)]; exact he
    · by_cases z : b = dx
      · rw [z, upd_same, upd_same]
      · rw [upd_ne z, upd_ne z, upd_ne hb, upd_ne hb]⟩⟩
end L2
namespace L2
open PySem PySem.Spec PyProof.Rows
end L2

set_option Elab.async false
set_option linter.all false
set_option maxRecDepth 100000
set_option maxHeartbeats 4000000
namespace L2
open PySem PySem.Spec PyProof.Rows
section
variable {X : Cx} {pins : List (Addr × Obj)} {σ : St} {H : Hp} {s : Shared}
end
end L2
namespace L2
open PySem PySem.Spec PyProof.Rows
end L2
namespace L2
open PySem PySem.Spec PyProof.Rows
end L2
namespace L2
open PySem PySem.Spec PyProof.Rows
end L2

set_option Elab.async false
set_option linter.all false
set_option maxRecDepth 100000
set_option maxHeartbeats 4000000
namespace L2
open PySem PySem.Spec PyProof.Rows PySem.Builtin PySem.Builtin.Str PySem.NumText
inductive rPartI (x : V) (vs : List V) (H : Hp) (Q : VK) : Prop
  | mk (z y : Str) (x0 : x = .str z) (x1 : vs = [.str y]) (hy : (y.length == 0) = false) (l : z.length ≤ sizeLine) (q : New H (.tup [.str (Txt.partition z y).1, .str (Txt.partition z y).2.1, .str (Txt.partition z y).2.2]) Q)
def rPart : V → List V → Hp → VK → Prop := fun x vs H Q => rPartI x vs H Q
inductive rSplitI (x : V) (vs : List V) (H : Hp) (Q : VK) : Prop
  | mk (z y : Str) (x0 : x = .str z) (x1 : vs = [.str y]) (hy : (y.length == 0) = false) (l : z.length + 2 ≤ sizeLine) (q : New H (.lst ((Txt.split z y).map V.str)) Q)
def rSplit : V → List V → Hp → VK → Prop := fun x vs H Q => rSplitI x vs H Q
theorem vals_strT {l : List (Str × Tok)} : Vals ((l.map (·.1)).map V.str) (strValues l) := by
  induction l with
  | nil => exact .nil
  | cons p r ih => exact .cons ⟨p.2, rfl⟩ ih
section
variable {X : Cx}
theorem mt_partition : MtM X "str.partition" rPart := by
  intro pins s σ H x vs v us Q I rx rv h
  obtain ⟨z, y, rfl, rfl, hy, hl, q⟩ := h
  obtain ⟨t, rfl⟩ := rx
  obtain ⟨u, rfl, ru⟩ := rv.one
  obtain ⟨t2, rfl⟩ := ru
  refine call_meets PySem.F.slot_str_partition (typeIs_str _ _ _) PySem.F.entry_str_partition (PySem.F.args_str_partition_2 _ _) (meets_str_partition z y t t2 hy hl) ?_
  have q' := q
  unfold Txt.partition at q'
  revert q'
  have key : ∀ (a b c : Str) (ta tb tc : Tok) (tk : Nat), New H (.tup [.str a, .str b, .str c]) Q → EP X pins σ Q (.ref s.heap.objs.size) { s with heap := s.heap.push { cls := .type "tuple", data := .seq [.str a ta, .str b tb, .str c tc].toArray }, toks := tk } := fun a b c ta tb tc tk q => by
    refine ⟨.ref s.heap.objs.size, _, I.laid (t' := tk) (o := .tup [.str a, .str b, .str c]) (fun b ob q => Heap.get?_push_of_some _ q) (Nat.le_refl _) ?_, rfl, q _ (I.hok.fresh (Nat.le_refl _))⟩
    exact ⟨le_line (show 3 ≤ 1000 by decide), _, .cons ⟨ta, rfl⟩ (.cons ⟨tb, rfl⟩ (.cons ⟨tc, rfl⟩ .nil)), IsTup.new _ _⟩
  cases PySem.Builtin.Str.occurrences z y 0 z.length 1 with
  | nil => intro q'; exact key _ _ _ _ _ _ _ q'
  | cons i r => intro q'; exact key _ _ _ _ _ _ _ q'
theorem mt_split : MtM X "str.split" rSplit := by
  intro pins s σ H x vs v us Q I rx rv h
  obtain ⟨z, y, rfl, rfl, hy, hl, q⟩ := h
  obtain ⟨t, rfl⟩ := rx
  obtain ⟨u, rfl, ru⟩ := rv.one
  obtain ⟨t2, rfl⟩ := ru
  have hn : (partsBetween z (occurrences z y 0 z.length (z.length + 1)) y.length).length ≤ sizeLine := by
    have e1 := StrLaws.occ_length_le z y 0 z.length (z.length + 1)
    rw [length_partsBetween]; lia
  have key : ∀ (l : List (Str × Tok)) (tk : Nat), l.map (·.1) = Txt.split z y → l.length ≤ sizeLine → EP X pins σ Q (.ref s.heap.objs.size) { s with heap := s.heap.push { cls := .type "list", data := .seq (strValues l).toArray }, toks := tk } := fun l tk e hz => by
    rw [← e] at q
    refine ⟨.ref s.heap.objs.size, _, I.laid (t' := tk) (o := .lst ((l.map (·.1)).map V.str)) (fun b ob q => Heap.get?_push_of_some _ q) (Nat.le_refl _) ?_, rfl, q _ (I.hok.fresh (Nat.le_refl _))⟩
    exact ⟨by rw [List.length_map, List.length_map]; exact hz, _, 0, vals_strT, Heap.get?_push_size _ rfl⟩
  cases h1 : (decide (z.length < y.length) || decide (strKind z < strKind y))
  · cases hf : (occurrences z y 0 z.length (z.length + 1)).isEmpty
    · refine call_meets F.slot_str_split (typeIs_str _ _ _) F.entry_str_split (F.args_str_split_2 _ _) (meets_str_split_sep z y t t2 h1 hy hf (by lia) hn) ?_
      show wants _ _ _ { s with toks := _, heap := s.heap.push { cls := .type "list", data := .seq (strsFrom s.toks (partsBetween z (occurrences z y 0 z.length (z.length + 1)) y.length)).toArray } }
      rw [strsFrom_eq]
      exact key (numbered s.toks _) _ ((numbered_texts _ _).trans ((if_neg (ne_true_of_eq_false h1)).trans (if_neg (ne_true_of_eq_false hf))).symm) (by have := congrArg List.length (numbered_texts s.toks (partsBetween z (occurrences z y 0 z.length (z.length + 1)) y.length)); rw [List.length_map] at this; rw [this]; exact hn)
    · exact call_meets F.slot_str_split (typeIs_str _ _ _) F.entry_str_split (F.args_str_split_2 _ _) (meets_str_split_not_found z y t t2 h1 hy hf) (key [(z, t)] s.toks ((if_neg (ne_true_of_eq_false h1)).trans (if_pos hf)).symm one_line)
  · exact call_meets F.slot_str_split (typeIs_str _ _ _) F.entry_str_split (F.args_str_split_2 _ _) (meets_str_split_cannot_occur z y t t2 h1) (key [(z, t)] s.toks (if_pos h1).symm one_line)
inductive rIntTI (xs : List V) (H : Hp) (Q : VK) : Prop
  | mk (x : Str) (x0 : xs = [.str x]) (d : PySem.NumText.AllDigits (sgn x)) (ne : sgn x ≠ []) (l : x.length ≤ 640) (q : Q (.int (PySem.NumText.digitsVal (sgn x) : Nat)) H)
def rIntT : List V → Hp → VK → Prop := fun xs H Q => rIntTI xs H Q
theorem call_intT : CallR X (.type "int") rIntT := by
  intro pins s σ H xs us Q I r h
  obtain ⟨x, rfl, d, ne, l, q⟩ := h
  obtain ⟨u, rfl, t, rfl⟩ := vals1 r
  exact PySem.W.KIN.call_text (intText_digits d ne (Nat.le_trans l (by decide))) l ⟨.int _, H, I.tok _, ⟨_, rfl⟩, q⟩
end
end L2

set_option Elab.async false
set_option linter.all false
set_option maxRecDepth 1000
set_option maxHeartbeats 4000000
namespace L2
open PySem PySem.Spec PyProof.Rows
inductive DT where
  | num (i : Int)
  | txt (s : List Nat)
  | row (xs : List DT)
  | tab (ks : List (List Nat)) (xs : List DT)
def isF (c : Nat) : Bool := decide (48 ≤ c) && decide (c ≤ 57)
def figB (fs : List Nat) : Bool := decide (1 ≤ fs.length) && decide (fs.length ≤ 60) && fs.all isF && (fs == [48] || !(fs.head? == some 48))
def numIn : List Nat → Option (Int × List Nat)
  | 45 :: r => if figB (r.takeWhile isF) && !(r.takeWhile isF == [48]) then some (-((PySem.NumText.digitsVal (r.takeWhile isF) : Nat) : Int), r.dropWhile isF) else none
  | r => if figB (r.takeWhile isF) then some (((PySem.NumText.digitsVal (r.takeWhile isF) : Nat) : Int), r.dropWhile isF) else none
def ltL (a b : List Nat) : Bool := decide (a < b)
def nmB (x : List Nat) : Bool := decide (1 ≤ x.length) && decide (x.length ≤ 8)
def nameIn (last cs : List Nat) : Option (List Nat × List Nat) :=
  if nmB (cs.takeWhile isL) && ltL last (cs.takeWhile isL) then
    match cs.dropWhile isL with
    | 58 :: r => some (cs.takeWhile isL, r)
    | _ => none
  else none
def txtIn (cs : List Nat) : Option (List Nat × List Nat) :=
  if decide ((cs.takeWhile isL).length ≤ 12) then
    match cs.dropWhile isL with
    | 39 :: r => some (cs.takeWhile isL, r)
    | _ => none
  else none
structure Fr where
  tab : Bool
  nm : List Nat
  ks : List (List Nat)
  xs : List DT
def Fr.dt (f : Fr) : DT := if f.tab then .tab f.ks f.xs else .row f.xs
def bhP (tab : Bool) (cs : List Nat) (st : List Fr) : Option (List Nat × List Fr × Option DT) :=
  match tab with
  | false => (match cs with
    | 93 :: r => some (r, st, some (.row []))
    | r => some (r, ⟨false, [], [], []⟩ :: st, none))
  | true => (match cs with
    | 125 :: r => some (r, st, some (.tab [] []))
    | r => (nameIn [] r).map fun p => (p.2, ⟨true, p.1, [], []⟩ :: st, none))
def begunP (cs : List Nat) (st : List Fr) : Option (List Nat × List Fr × Option DT) :=
  if decide (100 ≤ st.length) then none else
  match cs with
  | 91 :: r => bhP false r st
  | 123 :: r => bhP true r st
  | 39 :: r => (txtIn r).map fun p => (p.2, st, some (.txt p.1))
  | r => (numIn r).map fun p => (p.2, st, some (.num p.1))
def goneP (cs : List Nat) (f : Fr) (st : List Fr) (d : DT) : Option (List Nat × List Fr × Option DT) :=
  let g : Fr := { f with ks := if f.tab then f.ks ++ [f.nm] else f.ks, xs := f.xs ++ [d] }
  match cs with
  | 32 :: r => if f.tab then (nameIn f.nm r).map fun p => (p.2, { g with nm := p.1 } :: st, none) else some (r, g :: st, none)
  | c :: r => if c == (if f.tab then 125 else 93) then some (r, st, some g.dt) else none
  | [] => none
def readP : Nat → List Nat → List Fr → Option DT → Option DT
  | 0, _, _, _ => none
  | n + 1, cs, st, none => (begunP cs st).bind fun p => readP n p.1 p.2.1 p.2.2
  | n + 1, [], [], some d => some d
  | n + 1, _ :: _, [], some _ => none
  | n + 1, cs, f :: st, some d => (goneP cs f st d).bind fun p => readP n p.1 p.2.1 p.2.2
def pd (cs : List Nat) : Option DT := readP (2 * cs.length + 2) cs [] none
example : (pd ("[1 'a']".toList.map Char.toNat)).isSome = true := by decide +kernel
example : (pd ("{ab:1 b:{}}".toList.map Char.toNat)).isSome = true := by decide +kernel
example : (pd ("{b:1 a:2}".toList.map Char.toNat)).isSome = false := by decide +kernel
example : (pd ("[1]]".toList.map Char.toNat)).isSome = false := by decide +kernel
example : (pd ("-0".toList.map Char.toNat)).isSome = false := by decide +kernel
example : (pd ("[1 ".toList.map Char.toNat)).isSome = false := by decide +kernel
example : (pd ((List.replicate 99 91) ++ [49] ++ List.replicate 99 93)).isSome = true := by decide +kernel
example : (pd ((List.replicate 100 91) ++ [49] ++ List.replicate 100 93)).isSome = false := by decide +kernel
end L2
namespace L2
open PySem PySem.Spec PyProof.Rows
theorem tw_all {p : Nat → Bool} {c : Nat} {r : List Nat} (hc : p c = false) : ∀ {a : List Nat}, a.all p = true → (a ++ c :: r).takeWhile p = a ∧ (a ++ c :: r).dropWhile p = c :: r
  | [], _ => by simp [hc]
  | x :: a, h => by
    rw [List.all_cons, Bool.and_eq_true] at h
    have ih := tw_all (r := r) hc h.2
    simp [List.takeWhile_cons, List.dropWhile_cons, h.1, ih.1, ih.2]
theorem tw_end {p : Nat → Bool} : ∀ {a : List Nat}, a.all p = true → a.takeWhile p = a ∧ a.dropWhile p = []
  | [], _ => ⟨rfl, rfl⟩
  | x :: a, h => by
    rw [List.all_cons, Bool.and_eq_true] at h
    have ih := tw_end h.2
    simp [List.takeWhile_cons, List.dropWhile_cons, h.1, ih.1, ih.2]
end L2
namespace L2
open PySem PySem.Spec PyProof.Rows
def ButA (a : Addr) (H H' : Hp) : Prop := ∀ b o, b ≠ a → H b = some o → H' b = some o
theorem ButA.refl {a : Addr} {H : Hp} : ButA a H H := fun _ _ _ h => h
theorem ButA.trans {a : Addr} {H H1 H2 : Hp} (s : ButA a H H1) (t : ButA a H1 H2) : ButA a H H2 := fun b o n h => t b o n (s b o n h)
inductive Rdr (C : Addr) (H : Hp) (a : Addr) (x : Str) (p : Nat) : Prop
  | mk (dx : Addr) (fs : List (Str × V)) (h : H a = some (.ins C dx fs)) (t : fs.lookup ("text" : Str) = some (.str x)) (q : fs.lookup ("place" : Str) = some (.int (p : Int))) (le : p ≤ x.length) (lx : x.length ≤ 1000) (n1 : fs.lookup ("passes" : Str) = none) (n2 : fs.lookup ("run_of" : Str) = none) (n3 : fs.lookup ("ended" : Str) = none) (lf : fs.length ≤ 2)
def restOf (x : Str) (p : Nat) : List Nat := (sgn x).drop p
inductive spRIniI (C : Addr) (vs : List V) (H : Hp) (Q : VK) : Prop
  | mk (a dx : Addr) (x : Str) (x0 : vs = [.ref a, .str x]) (h : H a = some (.ins C dx [])) (lx : x.length ≤ 1000) (q : ∀ H', ButA a H H' → Rdr C H' a x 0 → Q .non H')
def spRIni (C : Addr) : Sp := fun vs H Q _ => spRIniI C vs H Q
inductive spEndedI (C : Addr) (vs : List V) (H : Hp) (Q : VK) : Prop
  | mk (a : Addr) (x : Str) (p : Nat) (x0 : vs = [.ref a]) (r : Rdr C H a x p) (q : Q (.bl (decide (p = x.length))) H)
def spEnded (C : Addr) : Sp := fun vs H Q _ => spEndedI C vs H Q
inductive spPassesI (C : Addr) (vs : List V) (H : Hp) (Q : VK) : Prop
  | mk (a : Addr) (x s : Str) (p c : Nat) (x0 : vs = [.ref a, .str s]) (hs : sgn s = [c]) (r : Rdr C H a x p) (q1 : ∀ t H', restOf x p = c :: t → ButA a H H' → Rdr C H' a x (p + 1) → Q (.bl true) H') (q2 : (∀ t, restOf x p ≠ c :: t) → Q (.bl false) H)
def spPasses (C : Addr) : Sp := fun vs H Q _ => spPassesI C vs H Q
end L2
namespace L2
open PySem PySem.Spec PyProof.Rows
theorem big_line {n : Nat} (h : n ≤ 1000) : n ≤ sizeLine := Nat.le_trans h (by decide)
theorem int_dec {p n : Nat} : decide (V.int (p : Int) = V.int (n : Int)) = decide (p = n) := by
  by_cases h : p = n
  · subst h; simp
  · rw [decide_eq_false h, decide_eq_false fun z => h (Int.ofNat_inj.mp (V.int.inj z))]
theorem rest_at {x : Str} {p : Nat} (h : p < x.length) : ∃ c, x.cps[p]? = some c ∧ restOf x p = c :: restOf x (p + 1) := by
  have h' : p < (sgn x).length := by show p < x.cps.toList.length; rw [Array.length_toList]; exact h
  refine ⟨(sgn x)[p], ?_, ?_⟩
  · rw [← Array.getElem?_toList]; exact List.getElem?_eq_getElem h'
  · unfold restOf
    rw [List.drop_eq_getElem_cons h']
theorem rest_end {x : Str} {p : Nat} (h : p = x.length) : restOf x p = [] := by
  unfold restOf
  exact List.drop_eq_nil_of_le (by show x.cps.toList.length ≤ p; rw [Array.length_toList, h]; exact Nat.le_refl _)
theorem Rdr.put {C : Addr} {H : Hp} {a : Addr} {x : Str} {p p' : Nat} (r : Rdr C H a x p) (le : p' ≤ x.length) : ∃ dx fs, H a = some (.ins C dx fs) ∧ fs.length < 1000 ∧ Rdr C (upd H a (.ins C dx (putF "place" (.int (p' : Int)) fs))) a x p' := by
  obtain ⟨dx, fs, h, t, q, _, lx, n1, n2, n3, lf⟩ := r
  refine ⟨dx, fs, h, by lia, dx, _, upd_same, ?_, ?_, le, lx, ?_, ?_, ?_, ?_⟩
  · rw [lookup_putF, if_neg (by decide +kernel)]; exact t
  · rw [lookup_putF, if_pos rfl]
  · rw [lookup_putF, if_neg (by decide +kernel)]; exact n1
  · rw [lookup_putF, if_neg (by decide +kernel)]; exact n2
  · rw [lookup_putF, if_neg (by decide +kernel)]; exact n3
  · have : ∀ {fs : List (Str × V)} {v w : V}, fs.lookup ("place" : Str) = some w → (putF "place" v fs).length = fs.length := fun {fs v w} e => by
      induction fs with
      | nil => cases e
      | cons g r ih =>
        obtain ⟨k, z⟩ := g
        unfold putF
        by_cases hk : k = "place"
        · rw [if_pos hk]; rfl
        · rw [if_neg hk, List.length_cons, List.length_cons]
          rw [List.lookup_cons] at e
          have hb : (("place" : Str) == k) = false := by simpa using Ne.symm hk
          rw [hb] at e
          rw [ih e]
    rw [this q]; exact lf
end L2
namespace L2
open PySem PySem.Spec PyProof.Rows
theorem str_one {s : Str} {c : Nat} (h : sgn s = [c]) : s = ⟨#[c]⟩ := by
  obtain ⟨cps⟩ := s
  have : cps.toList = [c] := h
  rw [← Array.toArray_toList (xs := cps), this]
theorem one_dec {d c : Nat} : decide (V.str ⟨#[d]⟩ = V.str ⟨#[c]⟩) = decide (d = c) := by
  by_cases h : d = c
  · subst h; simp
  · rw [decide_eq_false h, decide_eq_false fun z => h (by have := V.str.inj z; simpa using this)]
inductive spRunI (C : Addr) (vs : List V) (H : Hp) (Q : VK) : Prop
  | mk (a : Addr) (x s : Str) (p : Nat) (x0 : vs = [.ref a, .str s]) (r : Rdr C H a x p) (ls : s.length ≤ 1000) (q : ∀ (w : Str) H', sgn w = (restOf x p).takeWhile (fun c => decide (c ∈ sgn s)) → w.length ≤ x.length → ButA a H H' → Rdr C H' a x (p + w.length) → Q (.str w) H')
def spRun (C : Addr) : Sp := fun vs H Q _ => spRunI C vs H Q
end L2
namespace L2
open PySem PySem.Spec PyProof.Rows
theorem cutN_mid (l : List Nat) (i j : Nat) (h : i ≤ j) (hj : j ≤ l.length) : cutN l (some (i : Int)) (some (j : Int)) = (l.drop i).take (j - i) := by
  unfold cutN
  rw [HT.sIx_nat, HT.sIx_nat, Nat.min_eq_left hj, Nat.min_eq_left (Nat.le_trans h hj)]
end L2

set_option Elab.async false
set_option linter.all false
set_option maxRecDepth 1000
set_option maxHeartbeats 4000000
namespace L2
open PySem PySem.Spec PyProof.Rows
inductive spRUI (c : Nat → Addr) (vs : List V) (H : Hp) (Q : VK) (E : XK) : Prop
  | mk (b : Bool) (x0 : vs = [.bl b]) (q : b = true → Q .non H) (e : b = false → ∀ d H', Same H H' → HasF 5 0 0 d H' → E (.ref (c 5)) d H')
def spRU (c : Nat → Addr) : Sp := fun vs H Q E => spRUI c vs H Q E
inductive RdM (P : Program) (w : World) (K : PySem.W.Frag) (mg : Str → Option Value) (base : Heap) (C : Addr) : Prop
  | mk (cC : Cls K C) (gE : Addr) (fdE : FuncData) (mE : Meth K C "ended" gE) (bE : Binds K fdE ["self"] []) (GE : FnOk P w K mg base CX0 1 gE fdE ["self"] (spEnded C))
    (gP : Addr) (fdP : FuncData) (mP : Meth K C "passes" gP) (bP : Binds K fdP ["self", "sign"] []) (GP : FnOk P w K mg base CX0 2 gP fdP ["self", "sign"] (spPasses C))
    (gR : Addr) (fdR : FuncData) (mR : Meth K C "run_of" gR) (bR : Binds K fdR ["self", "signs"] []) (GR : FnOk P w K mg base CX0 2 gR fdR ["self", "signs"] (spRun C)) : RdM P w K mg base C
structure RdS (C : Addr) (H0 H : Hp) (a : Addr) (x : Str) (p : Nat) : Prop where
  r : Rdr C H a x p
  s : Same H0 H
  n : H0 a = none
theorem RdS.go {C : Addr} {H0 H H' : Hp} {a : Addr} {x : Str} {p p' : Nat} (h : RdS C H0 H a x p) (b : ButA a H H') (r : Rdr C H' a x p') : RdS C H0 H' a x p' := ⟨r, fun c o e => b c o (ne_of_none e h.n) (h.s c o e), h.n⟩
def abcS : Str := "abcdefghijklmnopqrstuvwxyz"
theorem abc_is {c : Nat} : decide (c ∈ sgn abcS) = isL c := by
  have : sgn abcS = LET := by decide +kernel
  rw [this]
  rfl
inductive spLetI (c : Nat → Addr) (C : Addr) (vs : List V) (H : Hp) (Q : VK) (E : XK) : Prop
  | mk (H0 : Hp) (a : Addr) (x : Str) (p : Nat) (x0 : vs = [.ref a]) (r : RdS C H0 H a x p)
    (q : ∀ (w : List Nat) (rest : List Nat) (ws : Str) p' H', txtIn (restOf x p) = some (w, rest) → sgn ws = w → ButA a H H' → RdS C H0 H' a x p' → restOf x p' = rest → Q (.str ws) H')
    (e : txtIn (restOf x p) = none → ∀ d H', Same H0 H' → HasF 5 0 0 d H' → E (.ref (c 5)) d H') : spLetI c C vs H Q E
def spLet (c : Nat → Addr) (C : Addr) : Sp := fun vs H Q E => spLetI c C vs H Q E
theorem rest_go {x : Str} {p : Nat} {w : List Nat} {f : Nat → Bool} (h : w = (restOf x p).takeWhile f) : restOf x (p + w.length) = (restOf x p).dropWhile f := by
  subst h
  unfold restOf
  rw [← List.drop_drop]
  generalize (sgn x).drop p = l
  induction l with
  | nil => rfl
  | cons y l ih =>
    rw [List.takeWhile_cons, List.dropWhile_cons]
    by_cases hy : f y = true
    · rw [if_pos hy, if_pos hy, List.length_cons, List.drop_succ_cons]; exact ih
    · rw [if_neg hy, if_neg hy]; rfl
theorem str_len {s : Str} : s.length = (sgn s).length := Array.length_toList.symm
end L2
namespace L2
open PySem PySem.Spec PyProof.Rows
def figS : Str := "0123456789"
theorem fig_is {c : Nat} : decide (c ∈ sgn figS) = isF c := by
  have e : sgn figS = [48, 49, 50, 51, 52, 53, 54, 55, 56, 57] := by decide +kernel
  rw [e]
  unfold isF
  by_cases h : c < 60
  · have : ∀ c : Fin 60, decide (c.1 ∈ [48, 49, 50, 51, 52, 53, 54, 55, 56, 57]) = (decide (48 ≤ c.1) && decide (c.1 ≤ 57)) := by decide +kernel
    exact this ⟨c, h⟩
  · rw [decide_eq_false (fun z => by have : ∀ d ∈ [48, 49, 50, 51, 52, 53, 54, 55, 56, 57], d < 60 := by decide
                                     exact h (this c z)), decide_eq_false (show ¬ c ≤ 57 by lia), Bool.and_false]
inductive spNumOfI (c : Nat → Addr) (vs : List V) (H : Hp) (Q : VK) (E : XK) : Prop
  | mk (w : Str) (x0 : vs = [.str w]) (lw : w.length ≤ 1000) (q : figB (sgn w) = true → ∀ H', Same H H' → Q (.int ((PySem.NumText.digitsVal (sgn w) : Nat) : Int)) H') (e : figB (sgn w) = false → ∀ d H', Same H H' → HasF 5 0 0 d H' → E (.ref (c 5)) d H')
def spNumOf (c : Nat → Addr) : Sp := fun vs H Q E => spNumOfI c vs H Q E
end L2
namespace L2
open PySem PySem.Spec PyProof.Rows
theorem Rdr.up {C : Addr} {H H' : Hp} {a : Addr} {x : Str} {p : Nat} (r : Rdr C H a x p) (s : Same H H') : Rdr C H' a x p := by
  obtain ⟨dx, fs, h, t, q, le, lx, n1, n2, n3, lf⟩ := r
  exact ⟨dx, fs, s _ _ h, t, q, le, lx, n1, n2, n3, lf⟩
theorem RdS.up {C : Addr} {H0 H H' : Hp} {a : Addr} {x : Str} {p : Nat} (r : RdS C H0 H a x p) (s : Same H H') : RdS C H0 H' a x p := ⟨r.r.up s, r.s.trans s, r.n⟩
theorem ButA.same {a : Addr} {H H1 H2 : Hp} (b : ButA a H H1) (s : Same H1 H2) : ButA a H H2 := fun c o n h => s _ _ (b c o n h)
theorem rest_tail {x : Str} {p c : Nat} {t : List Nat} (h : restOf x p = c :: t) : restOf x (p + 1) = t := by
  have := congrArg List.tail h
  unfold restOf at this ⊢
  rw [List.tail_drop] at this
  exact this
inductive spNumInI (c : Nat → Addr) (C : Addr) (vs : List V) (H : Hp) (Q : VK) (E : XK) : Prop
  | mk (H0 : Hp) (a : Addr) (x : Str) (p : Nat) (x0 : vs = [.ref a]) (r : RdS C H0 H a x p)
    (q : ∀ (i : Int) (rest : List Nat) p' H', numIn (restOf x p) = some (i, rest) → ButA a H H' → RdS C H0 H' a x p' → restOf x p' = rest → Q (.int i) H')
    (e : numIn (restOf x p) = none → ∀ d H', Same H0 H' → HasF 5 0 0 d H' → E (.ref (c 5)) d H') : spNumInI c C vs H Q E
def spNumIn (c : Nat → Addr) (C : Addr) : Sp := fun vs H Q E => spNumInI c C vs H Q E
theorem dv_zero : ∀ {l : List Nat} {acc : Nat}, l.foldl (fun acc c => acc * 10 + (c - 48)) acc = 0 → acc = 0
  | [], _, h => h
  | c :: l, acc, h => by
    have := dv_zero (l := l) h
    lia
theorem fig_pos {l : List Nat} (h : figB l = true) : (0 < PySem.NumText.digitsVal l) ↔ ¬ l = [48] := by
  unfold figB at h
  simp only [Bool.and_eq_true, decide_eq_true_eq] at h
  obtain ⟨⟨⟨h1, _⟩, ha⟩, hz⟩ := h
  cases l with
  | nil => cases h1
  | cons c l =>
    constructor
    · intro hp z
      rw [z] at hp
      exact absurd hp (by decide)
    · intro hne
      refine Nat.pos_of_ne_zero fun z => ?_
      unfold PySem.NumText.digitsVal at z
      rw [List.foldl_cons] at z
      have hc := dv_zero z
      rw [List.all_cons, Bool.and_eq_true] at ha
      have hf := ha.1
      unfold isF at hf
      simp only [Bool.and_eq_true, decide_eq_true_eq] at hf
      have c48 : c = 48 := by lia
      subst c48
      simp at hz
      exact hne (by rw [hz])
end L2
namespace L2
open PySem PySem.Spec PyProof.Rows
theorem numIn_else {l : List Nat} (h : ∀ t, l ≠ 45 :: t) : numIn l = if figB (l.takeWhile isF) then some (((PySem.NumText.digitsVal (l.takeWhile isF) : Nat) : Int), l.dropWhile isF) else none := by
  unfold numIn
  split
  · rename_i r; exact absurd rfl (h r)
  · rfl
end L2
namespace L2
open PySem PySem.Spec PyProof.Rows
inductive spNmInI (c : Nat → Addr) (C : Addr) (vs : List V) (H : Hp) (Q : VK) (E : XK) : Prop
  | row (a o : Addr) (v : V) (xs : List V) (x0 : vs = [.ref a, .ref o, v]) (h : H o = some (.lst xs)) (q : Q .non H) : spNmInI c C vs H Q E
  | tab (H0 : Hp) (a o : Addr) (kvs : List (Key × V)) (x last : Str) (p : Nat) (x0 : vs = [.ref a, .ref o, .str last]) (h : H o = some (.dK kvs)) (r : RdS C H0 H a x p)
    (q : ∀ (nm rest : List Nat) (ws : Str) p' H', nameIn (sgn last) (restOf x p) = some (nm, rest) → sgn ws = nm → ButA a H H' → RdS C H0 H' a x p' → restOf x p' = rest → Q (.str ws) H')
    (e : nameIn (sgn last) (restOf x p) = none → ∀ d H', Same H0 H' → HasF 5 0 0 d H' → E (.ref (c 5)) d H') : spNmInI c C vs H Q E
def spNmIn (c : Nat → Addr) (C : Addr) : Sp := fun vs H Q E => spNmInI c C vs H Q E
inductive spEndOfI (vs : List V) (H : Hp) (Q : VK) : Prop
  | row (o : Addr) (xs : List V) (x0 : vs = [.ref o]) (h : H o = some (.lst xs)) (q : Q (.str "]") H) : spEndOfI vs H Q
  | tab (o : Addr) (kvs : List (Key × V)) (x0 : vs = [.ref o]) (h : H o = some (.dK kvs)) (q : Q (.str "}") H) : spEndOfI vs H Q
def spEndOf : Sp := fun vs H Q _ => spEndOfI vs H Q
end L2

set_option Elab.async false
set_option linter.all false
set_option maxRecDepth 100000
set_option maxHeartbeats 4000000
namespace L2
def cds (s : String) : List Nat := s.toList.map Char.toNat
def odds : List String := ["-0", "00", "01", "-", "+1", "1.5", "1111111111111111111111111111111111111111111111111111111111111", "-2222222222222222222222222222222222222222222222222222222222222", "'", "'a", "'A'", "'a b'", "'abcdefghijklm'", "[ ]", "[1 ", "[1,2]", "[1  2]", "[1]]", "{ }", "{:1}", "{abcdefghi:1}", "{A:1}", "]", "'a'b", "[1]'", "True"]
theorem odd_raw : odds.all (fun s => (pd (cds s)).isNone) = true := by decide +kernel
theorem odd_row : odds.all (fun s => (pd (cds ("[" ++ s ++ "]"))).isNone) = true := by decide +kernel
def inTab (nm : List Nat) (s : String) : Bool := (readP 200 (cds (s ++ "]}")) [⟨false, [], [], [.num 5]⟩, ⟨true, nm, [], []⟩] none).isNone
theorem odd_tab (nm : List Nat) : odds.all (inTab nm) = true := rfl
end L2

set_option Elab.async false
set_option linter.all false
set_option maxRecDepth 1000
set_option maxHeartbeats 4000000
namespace L2
open PySem PySem.Spec PyProof.Rows
def chain : Nat → DT
  | 0 => .num 1
  | n + 1 => .row [chain n]
def Ch (G : Hp) : Nat → V → Prop
  | 0, v => v = .int 1
  | n + 1, v => ∃ o w, v = .ref o ∧ G o = some (.lst [w]) ∧ Ch G n w
theorem Ch.up {G G' : Hp} (s : Same G G') : ∀ {n : Nat} {v : V}, Ch G n v → Ch G' n v
  | 0, _, h => h
  | _ + 1, _, ⟨o, w, e, g, h⟩ => ⟨o, w, e, s _ _ g, Ch.up s h⟩
structure DV (G : Hp) (v : V) (t : DT) : Prop where
  nn : v ≠ .non
  ch : ∀ n, t = chain n → Ch G n v
theorem DV.up {G G' : Hp} {v : V} {t : DT} (h : DV G v t) (s : Same G G') : DV G' v t := ⟨h.nn, fun n e => (h.ch n e).up s⟩
theorem DV.int {G : Hp} {i : Int} : DV G (.int i) (.num i) := ⟨(fun z => nomatch z), fun n e => by
  cases n with
  | zero => cases e; rfl
  | succ n => cases e⟩
theorem DV.str {G : Hp} {s : Str} {l : List Nat} : DV G (.str s) (.txt l) := ⟨(fun z => nomatch z), fun n e => by cases n <;> cases e⟩
theorem DV.tab {G : Hp} {o : Addr} {ks : List (List Nat)} {xs : List DT} : DV G (.ref o) (.tab ks xs) := ⟨(fun z => nomatch z), fun n e => by cases n <;> cases e⟩
structure RowV (G : Hp) (vs : List V) (xs : List DT) : Prop where
  z : xs = [] → vs = []
  o : ∀ t, xs = [t] → ∃ v, vs = [v] ∧ DV G v t
theorem RowV.nil {G : Hp} : RowV G [] [] := ⟨fun _ => rfl, fun t e => nomatch e⟩
theorem RowV.up {G G' : Hp} {vs : List V} {xs : List DT} (h : RowV G vs xs) (s : Same G G') : RowV G' vs xs := ⟨h.z, fun t e => by
  obtain ⟨v, e1, d⟩ := h.o t e
  exact ⟨v, e1, d.up s⟩⟩
theorem RowV.snoc {G : Hp} {vs : List V} {xs : List DT} {v : V} {t : DT} (h : RowV G vs xs) (d : DV G v t) : RowV G (vs ++ [v]) (xs ++ [t]) := ⟨fun z => by simp at z, fun t' e => by
  cases xs with
  | nil =>
    rw [h.z rfl]
    cases e
    exact ⟨v, rfl, d⟩
  | cons y r => simp at e⟩
theorem DV.row {G : Hp} {o : Addr} {vs : List V} {xs : List DT} (g : G o = some (.lst vs)) (h : RowV G vs xs) : DV G (.ref o) (.row xs) := ⟨(fun z => nomatch z), fun n e => by
  cases n with
  | zero => cases e
  | succ n =>
    injection e with e
    obtain ⟨v, e1, d⟩ := h.o _ e
    exact ⟨o, v, rfl, by rw [g, e1], d.ch n rfl⟩⟩
inductive FrAt (G H : Hp) (p : Nat) (f : Fr) (e h : Addr) : Prop
  | row (vs : List V) (t : f.tab = false) (he : H e = some (.lst [.ref h, .non])) (hh : H h = some (.lst vs)) (l : vs.length < p) (rv : RowV G vs f.xs) : FrAt G H p f e h
  | tab (kvs : List (Key × V)) (s : Str) (t : f.tab = true) (he : H e = some (.lst [.ref h, .str s])) (hs : sgn s = f.nm) (hh : H h = some (.dK kvs)) (l : kvs.length < p) : FrAt G H p f e h
theorem FrAt.keep {G G' H H' : Hp} {p p' : Nat} {f : Fr} {e h : Addr} (a : FrAt G H p f e h) (sg : Same G G') (ke : ∀ o, H e = some o → H' e = some o) (kh : ∀ o, H h = some o → H' h = some o) (le : p ≤ p') : FrAt G' H' p' f e h := by
  cases a with
  | row vs t he hh l rv => exact .row vs t (ke _ he) (kh _ hh) (Nat.lt_of_lt_of_le l le) (rv.up sg)
  | tab kvs s t he hs hh l => exact .tab kvs s t (ke _ he) hs (kh _ hh) (Nat.lt_of_lt_of_le l le)
def Off (b : Addr) (ps : List (Addr × Addr)) : Prop := ∀ q ∈ ps, b ≠ q.1 ∧ b ≠ q.2
inductive Stk (G H : Hp) (p : Nat) : List Fr → List (Addr × Addr) → Prop
  | nil : Stk G H p [] []
  | cons {f : Fr} {st : List Fr} {e h : Addr} {ps : List (Addr × Addr)} (a : FrAt G H p f e h) (ge : G e = none) (gh : G h = none) (n : e ≠ h) (oe : Off e ps) (oh : Off h ps) (t : Stk G H p st ps) : Stk G H p (f :: st) ((e, h) :: ps)
theorem Stk.keep {G G' H H' : Hp} {p p' : Nat} {st : List Fr} {ps : List (Addr × Addr)} (k : Stk G H p st ps) (sg : Same G G') (gn : ∀ b, ¬ Off b ps → G b = none → G' b = none) (hk : ∀ b o, ¬ Off b ps → H b = some o → H' b = some o) (le : p ≤ p') : Stk G' H' p' st ps := by
  induction k with
  | nil => exact .nil
  | @cons f st e h ps a ge gh n oe oh t ih =>
    have i1 : ¬ Off e ((e, h) :: ps) := fun z => (z _ List.mem_cons_self).1 rfl
    have i2 : ¬ Off h ((e, h) :: ps) := fun z => (z _ List.mem_cons_self).2 rfl
    have i3 : ∀ b, ¬ Off b ps → ¬ Off b ((e, h) :: ps) := fun b hb z => hb fun q hq => z q (List.mem_cons_of_mem _ hq)
    exact .cons (a.keep sg (fun o => hk e o i1) (fun o => hk h o i2) le) (gn _ i1 ge) (gn _ i2 gh) n oe oh (ih (fun b hb => gn b (i3 b hb)) fun b o hb => hk b o (i3 b hb))
theorem Stk.len {G H : Hp} {p : Nat} {st : List Fr} {ps : List (Addr × Addr)} (k : Stk G H p st ps) : st.length = ps.length := by
  induction k with
  | nil => rfl
  | cons _ _ _ _ _ _ _ ih => rw [List.length_cons, List.length_cons, ih]
def ents (ps : List (Addr × Addr)) : List V := (ps.map fun q => V.ref q.1).reverse
theorem ents_cons {q : Addr × Addr} {ps : List (Addr × Addr)} : ents (q :: ps) = ents ps ++ [.ref q.1] := by
  unfold ents
  rw [List.map_cons, List.reverse_cons]
theorem ents_len {ps : List (Addr × Addr)} : (ents ps).length = ps.length := by unfold ents; simp
structure RS (C : Addr) (H0 G H : Hp) (a w : Addr) (x : Str) (p : Nat) (st : List Fr) (ps : List (Addr × Addr)) : Prop where
  r : RdS C G H a x p
  s : Same H0 G
  gw : G w = none
  hw : H w = some (.lst (ents ps))
  aw : a ≠ w
  oa : Off a ps
  ow : Off w ps
  k : Stk G H p st ps
  sl : st.length ≤ 100
theorem ne_off {a b : Addr} {ps : List (Addr × Addr)} (h : Off a ps) (n : ¬ Off b ps) : b ≠ a := fun z => n (z ▸ h)
theorem RS.but {C : Addr} {H0 G H H' : Hp} {a w : Addr} {x : Str} {p p' : Nat} {st : List Fr} {ps : List (Addr × Addr)} (h : RS C H0 G H a w x p st ps) (b : ButA a H H') (r : Rdr C H' a x p') (le : p ≤ p') : RS C H0 G H' a w x p' st ps :=
  ⟨h.r.go b r, h.s, h.gw, b _ _ (Ne.symm h.aw) h.hw, h.aw, h.oa, h.ow, h.k.keep (Same.refl _) (fun _ _ => id) (fun c o hc e => b c o (ne_off h.oa hc) e) le, h.sl⟩
theorem RS.up {C : Addr} {H0 G H H' : Hp} {a w : Addr} {x : Str} {p : Nat} {st : List Fr} {ps : List (Addr × Addr)} (h : RS C H0 G H a w x p st ps) (s : Same H H') : RS C H0 G H' a w x p st ps :=
  ⟨h.r.up s, h.s, h.gw, s _ _ h.hw, h.aw, h.oa, h.ow, h.k.keep (Same.refl _) (fun _ _ => id) (fun c o _ e => s c o e) (Nat.le_refl _), h.sl⟩
theorem RS.done {C : Addr} {H0 G H : Hp} {a w b : Addr} {x : Str} {p : Nat} {st : List Fr} {ps : List (Addr × Addr)} {o : HO} (h : RS C H0 G H a w x p st ps) (n : G b = none) (e : H b = some o) (na : b ≠ a) (nw : b ≠ w) (ob : Off b ps) : RS C H0 (upd G b o) H a w x p st ps := by
  have sg : Same G (upd G b o) := Same.new n
  refine ⟨⟨h.r.r, fun c u z => ?_, by rw [upd_ne (Ne.symm na)]; exact h.r.n⟩, h.s.trans sg, by rw [upd_ne (Ne.symm nw)]; exact h.gw, h.hw, h.aw, h.oa, h.ow, h.k.keep sg (fun c hc z => by rw [upd_ne (ne_off ob hc)]; exact z) (fun _ _ _ => id) (Nat.le_refl _), h.sl⟩
  by_cases q : c = b
  · rw [q, upd_same] at z; rw [q, e]; exact z
  · rw [upd_ne q] at z; exact h.r.s _ _ z
def DO (G : Hp) (v : V) : Option DT → Prop
  | none => v = .non
  | some t => DV G v t
def Out (C : Addr) (H0 : Hp) (a w : Addr) (x : Str) (p : Nat) (r : Option (List Nat × List Fr × Option DT)) (Q : VK) : Prop :=
  ∀ cs st d, r = some (cs, st, d) → ∀ v p' G H ps, RS C H0 G H a w x p' st ps → restOf x p' = cs → p < p' → DO G v d → Q v H
def Bad (c : Nat → Addr) (H0 : Hp) {α : Type} (r : Option α) (E : XK) : Prop := r = none → ∀ d H, Same H0 H → HasF 5 0 0 d H → E (.ref (c 5)) d H
theorem bh_row {cs : List Nat} {st : List Fr} (h : ∀ t, cs ≠ 93 :: t) : bhP false cs st = some (cs, ⟨false, [], [], []⟩ :: st, none) := by
  unfold bhP
  dsimp only
  split
  · exact absurd rfl (h _)
  · rfl
theorem bh_tab {cs : List Nat} {st : List Fr} (h : ∀ t, cs ≠ 125 :: t) : bhP true cs st = (nameIn [] cs).map fun p => (p.2, ⟨true, p.1, [], []⟩ :: st, none) := by
  unfold bhP
  dsimp only
  split
  · exact absurd rfl (h _)
  · rfl
def hoE (tab : Bool) : HO := if tab then .dK [] else .lst []
inductive spAddI (vs : List V) (H : Hp) (Q : VK) : Prop
  | row (h : Addr) (ys : List V) (s v : V) (x0 : vs = [.ref h, s, v]) (hh : H h = some (.lst ys)) (l : ys.length < 1001) (q : Q .non (upd H h (.lst (ys ++ [v])))) : spAddI vs H Q
  | tab (h : Addr) (kvs : List (Key × V)) (s : Str) (v : V) (x0 : vs = [.ref h, .str s, v]) (hh : H h = some (.dK kvs)) (l : kvs.length < 1001) (q : Q .non (upd H h (.dK (putK kvs (Sum.inr s) v)))) : spAddI vs H Q
def spAdd : Sp := fun vs H Q _ => spAddI vs H Q
inductive spBHI (c : Nat → Addr) (C : Addr) (vs : List V) (H : Hp) (Q : VK) (E : XK) : Prop
  | mk (H0 G : Hp) (a w h : Addr) (x : Str) (p : Nat) (st : List Fr) (ps : List (Addr × Addr)) (tab : Bool) (x0 : vs = [.ref a, .ref w, .ref h]) (r : RS C H0 G H a w x p st ps) (hp : 0 < p) (sl : st.length < 100) (hh : H h = some (hoE tab)) (gh : G h = none) (na : h ≠ a) (nw : h ≠ w) (oh : Off h ps)
    (q : ∀ cs st' d, bhP tab (restOf x p) st = some (cs, st', d) → ∀ v p' G H ps, RS C H0 G H a w x p' st' ps → restOf x p' = cs → p ≤ p' → DO G v d → Q v H) (e : Bad c H0 (bhP tab (restOf x p) st) E) : spBHI c C vs H Q E
def spBH (c : Nat → Addr) (C : Addr) : Sp := fun vs H Q E => spBHI c C vs H Q E
inductive spBegI (c : Nat → Addr) (C : Addr) (vs : List V) (H : Hp) (Q : VK) (E : XK) : Prop
  | mk (H0 G : Hp) (a w : Addr) (x : Str) (p : Nat) (st : List Fr) (ps : List (Addr × Addr)) (x0 : vs = [.ref a, .ref w]) (r : RS C H0 G H a w x p st ps)
    (q : Out C H0 a w x p (begunP (restOf x p) st) Q) (e : Bad c H0 (begunP (restOf x p) st) E) : spBegI c C vs H Q E
def spBeg (c : Nat → Addr) (C : Addr) : Sp := fun vs H Q E => spBegI c C vs H Q E
inductive spGoneI (c : Nat → Addr) (C : Addr) (vs : List V) (H : Hp) (Q : VK) (E : XK) : Prop
  | mk (H0 G : Hp) (a w : Addr) (x : Str) (p : Nat) (f : Fr) (st : List Fr) (ps : List (Addr × Addr)) (v : V) (t : DT) (x0 : vs = [.ref a, .ref w, v]) (r : RS C H0 G H a w x p (f :: st) ps) (d : DV G v t)
    (q : Out C H0 a w x p (goneP (restOf x p) f st t) Q) (e : Bad c H0 (goneP (restOf x p) f st t) E) : spGoneI c C vs H Q E
def spGone (c : Nat → Addr) (C : Addr) : Sp := fun vs H Q E => spGoneI c C vs H Q E
theorem put_len {kvs : List (Key × V)} {k : Key} {v : V} : (putK kvs k v).length ≤ kvs.length + 1 := by
  unfold putK
  split
  · rw [List.length_map]; exact Nat.le_succ _
  · simp
inductive spReadI (c : Nat → Addr) (vs : List V) (H : Hp) (Q : VK) (E : XK) : Prop
  | txt (x : Str) (x0 : vs = [.str x]) (lx : x.length ≤ 1000) (q : ∀ t, pd (sgn x) = some t → ∀ v H', Same H H' → DV H' v t → Q v H') (e : Bad c H (pd (sgn x)) E) : spReadI c vs H Q E
  | odd (v : V) (T : String) (x0 : vs = [v]) (t : TyN H v T) (n : isiB T "str" = false) (e : Bad c H (none : Option Unit) E) : spReadI c vs H Q E
def spRead (c : Nat → Addr) : Sp := fun vs H Q E => spReadI c vs H Q E
theorem Rdr.at_ {C : Addr} {H H' : Hp} {a : Addr} {x : Str} {p : Nat} (r : Rdr C H a x p) (s : H' a = H a) : Rdr C H' a x p := by
  obtain ⟨dx, fs, h, t, q, le, lx, n1, n2, n3, lf⟩ := r
  exact ⟨dx, fs, s.trans h, t, q, le, lx, n1, n2, n3, lf⟩
theorem Rdr.there {C : Addr} {H : Hp} {a : Addr} {x : Str} {p : Nat} (r : Rdr C H a x p) : ∃ o, H a = some o := by
  obtain ⟨dx, fs, h, t, q, le, lx, n1, n2, n3, lf⟩ := r
  exact ⟨_, h⟩
theorem FrAt.there {G H : Hp} {p : Nat} {f : Fr} {e h : Addr} (a : FrAt G H p f e h) : (∃ o, H e = some o) ∧ ∃ o, H h = some o := by
  cases a with
  | row vs t he hh l rv => exact ⟨⟨_, he⟩, ⟨_, hh⟩⟩
  | tab kvs s t he hs hh l => exact ⟨⟨_, he⟩, ⟨_, hh⟩⟩
theorem Stk.off {G H : Hp} {p : Nat} {st : List Fr} {ps : List (Addr × Addr)} {b : Addr} (k : Stk G H p st ps) (n : H b = none) : Off b ps := by
  induction k with
  | nil => exact fun q hq => nomatch hq
  | @cons f st e h ps a ge gh _ oe oh t ih =>
    intro q hq
    rcases List.mem_cons.mp hq with rfl | hq
    · obtain ⟨⟨o, z⟩, ⟨o', z'⟩⟩ := a.there
      exact ⟨fun y => (by have y : b = e := y; rw [← y, n] at z; cases z), fun y => (by have y : b = h := y; rw [← y, n] at z'; cases z')⟩
    · exact ih q hq
theorem ne_some {H : Hp} {a b : Addr} {o : HO} (h : H a = some o) (n : H b = none) : b ≠ a := fun z => by rw [z, h] at n; cases n
theorem RS.push {C : Addr} {H0 G H Hn : Hp} {a w e h : Addr} {x : Str} {p : Nat} {st : List Fr} {ps : List (Addr × Addr)} {f : Fr} (r : RS C H0 G H a w x p st ps) (sl : st.length < 100) (s : Same H Hn) (he : H e = none) (gh : G h = none) (na : h ≠ a) (nw : h ≠ w) (oh : Off h ps) (hh : H h ≠ none)
    (fa : FrAt G (upd Hn w (.lst (ents ps ++ [.ref e]))) p f e h) : RS C H0 G (upd Hn w (.lst (ents ps ++ [.ref e]))) a w x p (f :: st) ((e, h) :: ps) := by
  obtain ⟨oa, ha⟩ := r.r.r.there
  have ea : e ≠ a := ne_some ha he
  have ew : e ≠ w := ne_some r.hw he
  have eo := r.k.off he
  have ge : G e = none := r.r.s.free he
  have eh : e ≠ h := fun z => hh (z ▸ he)
  have kp : ∀ b o', b ≠ w → H b = some o' → upd Hn w (.lst (ents ps ++ [.ref e])) b = some o' := fun b o' h1 z => by rw [upd_ne h1]; exact s _ _ z
  refine ⟨⟨(r.r.r.up s).at_ (by rw [upd_ne r.aw]), fun b o' z => kp b o' (fun y => by rw [y, r.gw] at z; cases z) (r.r.s _ _ z), r.r.n⟩, r.s, r.gw, by rw [upd_same, ents_cons], r.aw, fun q hq => ?_, fun q hq => ?_, .cons fa ge gh eh eo oh (r.k.keep (Same.refl _) (fun _ _ => id) (fun b o' hb z => kp b o' (ne_off r.ow hb) z) (Nat.le_refl _)), sl⟩
  · rcases List.mem_cons.mp hq with rfl | hq
    · exact ⟨Ne.symm ea, Ne.symm na⟩
    · exact r.oa q hq
  · rcases List.mem_cons.mp hq with rfl | hq
    · exact ⟨Ne.symm ew, Ne.symm nw⟩
    · exact r.ow q hq
theorem go_lt {x : Str} {p p' : Nat} (h : (restOf x p').length < (restOf x p).length) : p < p' := by
  unfold restOf at h
  rw [List.length_drop, List.length_drop] at h
  lia
theorem dw_len {f : Nat → Bool} : ∀ {l : List Nat}, (l.dropWhile f).length ≤ l.length
  | [] => Nat.le_refl _
  | x :: l => by
    rw [List.dropWhile_cons]
    split
    · exact Nat.le_succ_of_le dw_len
    · exact Nat.le_refl _
theorem dw_lt {f : Nat → Bool} {l : List Nat} (h : 1 ≤ (l.takeWhile f).length) : (l.dropWhile f).length < l.length := by
  cases l with
  | nil => cases h
  | cons x l =>
    rw [List.takeWhile_cons] at h
    rw [List.dropWhile_cons]
    by_cases hx : f x = true
    · rw [if_pos hx]; exact Nat.lt_succ_of_le dw_len
    · rw [if_neg hx] at h; cases h
theorem name_len {l cs nm r : List Nat} (h : nameIn l cs = some (nm, r)) : r.length < cs.length := by
  unfold nameIn at h
  split at h
  · have := dw_len (f := isL) (l := cs)
    split at h
    · rename_i r' hr'
      rw [hr'] at this
      cases h
      exact this
    · cases h
  · cases h
theorem txt_len {cs nm r : List Nat} (h : txtIn cs = some (nm, r)) : r.length < cs.length := by
  unfold txtIn at h
  split at h
  · have := dw_len (f := isL) (l := cs)
    split at h
    · rename_i r' hr'
      rw [hr'] at this
      cases h
      exact this
    · cases h
  · cases h
theorem fig_one {fs : List Nat} (h : figB fs = true) : 1 ≤ fs.length := by
  unfold figB at h
  simp only [Bool.and_eq_true, decide_eq_true_eq] at h
  exact h.1.1.1
theorem num_len {cs r : List Nat} {i : Int} (h : numIn cs = some (i, r)) : r.length < cs.length := by
  unfold numIn at h
  split at h
  · split at h
    · cases h
      exact Nat.lt_succ_of_le dw_len
    · cases h
  · split at h
    · rename_i hf
      cases h
      exact dw_lt (fig_one hf)
    · cases h
theorem RS.go {C : Addr} {H0 G H H' : Hp} {a w : Addr} {x : Str} {p p' : Nat} {st : List Fr} {ps : List (Addr × Addr)} (h : RS C H0 G H a w x p st ps) (b : ButA a H H') (r : RdS C G H' a x p') (le : p ≤ p') : RS C H0 G H' a w x p' st ps := h.but b r.r le
theorem beg_no {cs : List Nat} {st : List Fr} (h : 100 ≤ st.length) : begunP cs st = none := if_pos (decide_eq_true h)
theorem beg_row {t : List Nat} {st : List Fr} (h : st.length < 100) : begunP (91 :: t) st = bhP false t st := if_neg (by simpa using h)
theorem beg_tab {t : List Nat} {st : List Fr} (h : st.length < 100) : begunP (123 :: t) st = bhP true t st := if_neg (by simpa using h)
theorem beg_txt {t : List Nat} {st : List Fr} (h : st.length < 100) : begunP (39 :: t) st = (txtIn t).map fun p => (p.2, st, some (.txt p.1)) := if_neg (by simpa using h)
theorem beg_num {cs : List Nat} {st : List Fr} (h : st.length < 100) (h1 : ∀ t, cs ≠ 91 :: t) (h2 : ∀ t, cs ≠ 123 :: t) (h3 : ∀ t, cs ≠ 39 :: t) : begunP cs st = (numIn cs).map fun p => (p.2, st, some (.num p.1)) := by
  unfold begunP
  rw [if_neg (by simpa using h)]
  split
  · exact absurd rfl (h1 _)
  · exact absurd rfl (h2 _)
  · exact absurd rfl (h3 _)
  · rfl
theorem RS.alter {C : Addr} {H0 G H H' : Hp} {a w e h : Addr} {x : Str} {p p' : Nat} {f g : Fr} {st : List Fr} {ps : List (Addr × Addr)} (r : RS C H0 G H a w x p (f :: st) ((e, h) :: ps)) (kp : ∀ b o, b ≠ e → b ≠ h → b ≠ a → H b = some o → H' b = some o) (rd : Rdr C H' a x p') (le : p ≤ p') (fa : FrAt G H' p' g e h) : RS C H0 G H' a w x p' (g :: st) ((e, h) :: ps) := by
  have k := r.k
  cases k with
  | cons a0 ge gh n oe oh t =>
    have w1 := r.ow _ List.mem_cons_self
    exact ⟨⟨rd, fun b o z => kp b o (fun y => by rw [y, ge] at z; cases z) (fun y => by rw [y, gh] at z; cases z) (fun y => by rw [y, r.r.n] at z; cases z) (r.r.s _ _ z), r.r.n⟩, r.s, r.gw, kp _ _ w1.1 w1.2 (Ne.symm r.aw) r.hw, r.aw, r.oa, r.ow, .cons fa ge gh n oe oh (t.keep (Same.refl _) (fun _ _ => id) (fun b o hb z => kp b o (ne_off oe hb) (ne_off oh hb) (ne_off (fun q hq => r.oa q (List.mem_cons_of_mem _ hq)) hb) z) le), r.sl⟩
theorem RS.pop {C : Addr} {H0 G H H' : Hp} {a w e h : Addr} {x : Str} {p p' : Nat} {f : Fr} {st : List Fr} {ps : List (Addr × Addr)} {o : HO} (r : RS C H0 G H a w x p (f :: st) ((e, h) :: ps)) (kp : ∀ b o, b ≠ e → b ≠ h → b ≠ a → H b = some o → H' b = some o) (rd : Rdr C H' a x p') (le : p ≤ p') (ho : H' h = some o) : RS C H0 (upd G h o) (upd H' w (.lst (ents ps))) a w x p' st ps := by
  have k := r.k
  cases k with
  | cons a0 ge gh n oe oh t =>
    have w1 := r.ow _ List.mem_cons_self
    have a1 := r.oa _ List.mem_cons_self
    have oa' : Off a ps := fun q hq => r.oa q (List.mem_cons_of_mem _ hq)
    have ow' : Off w ps := fun q hq => r.ow q (List.mem_cons_of_mem _ hq)
    have sg : Same G (upd G h o) := Same.new gh
    refine ⟨⟨rd.at_ (by rw [upd_ne r.aw]), fun b o' z => ?_, by rw [upd_ne a1.2]; exact r.r.n⟩, r.s.trans sg, by rw [upd_ne w1.2]; exact r.gw, upd_same, r.aw, oa', ow', t.keep sg (fun b hb z => by rw [upd_ne (ne_off oh hb)]; exact z) (fun b o' hb z => by rw [upd_ne (ne_off ow' hb)]; exact kp b o' (ne_off oe hb) (ne_off oh hb) (ne_off oa' hb) z) le, Nat.le_of_succ_le r.sl⟩
    by_cases y : b = h
    · rw [y, upd_same] at z
      rw [y, upd_ne (Ne.symm w1.2), ho]; exact z
    · rw [upd_ne y] at z
      rw [upd_ne (fun y => by rw [y, r.gw] at z; cases z)]
      exact kp b o' (fun y => by rw [y, ge] at z; cases z) y (fun y => by rw [y, r.r.n] at z; cases z) (r.r.s _ _ z)
def Fr.add (f : Fr) (d : DT) : Fr := { f with ks := if f.tab then f.ks ++ [f.nm] else f.ks, xs := f.xs ++ [d] }
def endC (tab : Bool) : Nat := if tab then 125 else 93
theorem gone_row {t : List Nat} {f : Fr} {st : List Fr} {d : DT} (h : f.tab = false) : goneP (32 :: t) f st d = some (t, f.add d :: st, none) := by
  show (if f.tab = true then _ else _) = _
  rw [if_neg (by rw [h]; decide)]; rfl
theorem gone_tab {t : List Nat} {f : Fr} {st : List Fr} {d : DT} (h : f.tab = true) : goneP (32 :: t) f st d = (nameIn f.nm t).map fun p => (p.2, { f.add d with nm := p.1 } :: st, none) := by
  show (if f.tab = true then _ else _) = _
  rw [if_pos h]; rfl
theorem gone_end {t : List Nat} {f : Fr} {st : List Fr} {d : DT} {c : Nat} (h : endC f.tab = c) : goneP (c :: t) f st d = some (t, st, some (f.add d).dt) := by
  subst h
  unfold goneP endC
  cases ht : f.tab <;> simp [Fr.add, ht]
theorem gone_no {cs : List Nat} {f : Fr} {st : List Fr} {d : DT} {c : Nat} (h : endC f.tab = c) (h1 : ∀ t, cs ≠ 32 :: t) (h2 : ∀ t, cs ≠ c :: t) : goneP cs f st d = none := by
  subst h
  unfold goneP
  dsimp only
  split
  · exact absurd rfl (h1 _)
  · rename_i c0 r0 _
    rw [if_neg]
    intro z
    exact h2 r0 (by rw [show c0 = endC f.tab by simpa [endC] using z])
  · rfl
theorem read_beg {n : Nat} {cs : List Nat} {st : List Fr} : readP (n + 1) cs st none = (begunP cs st).bind fun p => readP n p.1 p.2.1 p.2.2 := by
  rw [readP]
theorem read_gone {n : Nat} {cs : List Nat} {f : Fr} {st : List Fr} {d : DT} : readP (n + 1) cs (f :: st) (some d) = (goneP cs f st d).bind fun p => readP n p.1 p.2.1 p.2.2 := by
  rw [readP]
theorem read_end {n : Nat} {d : DT} : readP (n + 1) [] [] (some d) = some d := by
  rw [readP]
theorem read_more {n c : Nat} {cs : List Nat} {d : DT} : readP (n + 1) (c :: cs) [] (some d) = none := by
  rw [readP]
inductive RdW (C : Addr) (H : Hp) (a w : Addr) (x : Str) (m : Nat) (v : V) (d : Option DT) (st : List Fr) (Hw : Hp) : Prop
  | mk (p n : Nat) (G : Hp) (ps : List (Addr × Addr)) (r : RS C H G Hw a w x p st ps) (e : pd (sgn x) = readP n (restOf x p) st d) (l : m < n) (hm : m = (restOf x p).length) (o : DO G v d)
end L2

set_option Elab.async false
set_option linter.all false
set_option maxRecDepth 100000
set_option maxHeartbeats 4000000
namespace L2
open PySem PySem.Spec PyProof.Rows
section
variable {M : Model} {A : Around} {E : Value → Shared → Prop} {s : Shared} {base : Heap} {env : Env} {outer : List Env} {L e T0 : Addr} {v : Value} {oe : Obj} {vs : Array Value} {Q : Unit → Shared → Prop}
theorem leaveW (hfr : A.frames = some (env :: outer)) (hl : s.heap.FunFrames base (env :: outer)) (hf : env.frame = some L) (he : s.heap.get? e = some oe) (hd : oe.data = .fields vs) (hsz : 1 < vs.size) (h1 : vs[1]? = some (.ref T0)) (ne : T0 ≠ e) (hT : Entry s.heap T0 v)
    (h : ∀ h' T vs', Stp [e, T0] (frs (env :: outer)) s.heap h' → (T = T0 ∨ s.heap.get? T = none) → T ≠ e → h'.get? e = some { oe with data := .fields vs' } → 1 < vs'.size → vs'[1]? = some (.ref T) → vs'[2]? = vs[2]? → Entry h' T .none → Q () { s with heap := h' }) :
    wpAny M A (leaving env (.ref e)) Q E s := by
  obtain ⟨oT, ts, g1, g2, g3⟩ := hT.ex
  have other : ∀ b, b ≠ T0 → (s.heap.update T0 (Obj.mapFields (·.setIfInBounds 3 Value.none))).get? b = s.heap.get? b := fun b hb => Heap.get?_update_other _ _ (Ne.symm hb)
  have noF : ∀ b o, s.heap.get? b = some o → (∀ vs, o.data ≠ .fields vs) → b ≠ T0 := fun b o hb hnf q => by
    rw [q, g1] at hb
    cases hb
    exact hnf ts g2
  unfold leaving
  by_cases hv : v = rawInt L
  · refine wpAny_bind (wpAny_mono (Q := fun _ s' => s' = s) (E := E) ?_ (fun _ s' z => ?_) fun _ _ y => y)
    · unfold noteFrame
      simp only [hf]
      refine wpAny_bind (wpAny_field he hd h1 ?_)
      rw [if_pos (show (Value.ref T0 != Value.none) = true from by simp)]
      refine wpAny_bind (wpAny_field g1 g2 g3 ?_)
      rw [if_pos (show (v == rawInt L) = true from by rw [hv]; exact beq_self_eq_true _)]
      exact wpAny_pure rfl
    · subst z
      refine landX he hd h1 hT fun h' k1 k2 => h h' T0 vs ⟨fun b o q hS _ => (k1 b (fun z => hS (by rw [z]; simp))).trans q, fun b o q hb => ?_⟩ (.inl rfl) ne ?_ hsz h1 rfl k2
      · obtain ⟨_, o', z, nf⟩ := hl.mem hb
        rw [q] at z
        cases z
        exact ⟨o.slots, (k1 b (noF b o q nf)).trans q⟩
      · rw [k1 e (Ne.symm ne), he]
        obtain ⟨c, d, dt, sl⟩ := oe
        cases hd
        rfl
  · refine wpAny_bind ?_
    unfold noteFrame
    simp only [hf]
    refine wpAny_bind (wpAny_field he hd h1 ?_)
    rw [if_pos (show (Value.ref T0 != Value.none) = true from by simp)]
    refine wpAny_bind (wpAny_field g1 g2 g3 ?_)
    rw [if_neg (show ¬ ((v == rawInt L) = true) from fun z => hv (by simpa using z))]
    refine wpAny_bind (wpAny_setField g1 g2 (Array.getElem?_eq_some_iff.mp g3).1 ?_)
    refine entryX (s := { s with heap := s.heap.update T0 (Obj.mapFields (·.setIfInBounds 3 Value.none)) }) hfr (hl.of_keeps fun b o hb hnf => ⟨o, (other b (noF b o hb hnf)).trans hb, rfl⟩) hf ((other e (Ne.symm ne)).trans he) hd hsz fun h' T st n1 n2 n3 => ?_
    have hTn : s.heap.get? T = none := by
      cases z : s.heap.get? T with
      | none => rfl
      | some o =>
        by_cases hz : T = T0
        · rw [hz, Heap.get?_update_self _ g1 (Obj.isFreed_of_fields (Obj.data_mapFields g2 _))] at n1
          cases n1
        · rw [other T hz, z] at n1
          cases n1
    have hTe : e ≠ T := fun z => by rw [← z, he] at hTn; cases hTn
    refine landX (s := { s with heap := h' }) n2 (Obj.data_mapFields hd _) (T := T) (by simp [hsz]) n3 fun h2 k1 k2 => ?_
    refine h h2 T (vs.setIfInBounds 1 (.ref T)) ⟨fun b o q hS hfr' => ?_, fun b o q hb => ?_⟩ (.inr hTn) (Ne.symm hTe) ?_ (by simpa using hsz) (by simp [hsz]) (by rw [Array.getElem?_setIfInBounds_ne (by decide)]) k2
    · have hb : b ≠ T0 := fun z => hS (by rw [z]; simp)
      exact (k1 b (fun z => by rw [z, hTn] at q; cases q)).trans (st.keep b o ((other b hb).trans q) (fun z => hS (by rw [List.mem_singleton.mp z]; simp)) hfr')
    · obtain ⟨_, o', z, nf⟩ := hl.mem hb
      rw [q] at z
      cases z
      obtain ⟨sl, z2⟩ := st.slot b o ((other b (noF b o q nf)).trans q) hb
      exact ⟨sl, (k1 b (fun z => by rw [z, hTn] at q; cases q)).trans z2⟩
    · rw [k1 e hTe, n2]
      obtain ⟨c, d, dt, sl⟩ := oe
      cases hd
      rfl
end
theorem note_env {env cenv : Env} (h : cenv.frame = env.frame) (e : Value) : noteFrame e cenv = noteFrame e env := by
  unfold noteFrame PySem.frameOf
  rw [h]
section
variable {X : Cx} {pins : List (Addr × Obj)} {σ : St} {H : Hp} {s s' : Shared} {E : XK} {e : Value}
theorem comp_raise {M : Model} {E1 E' : Value → Shared → Prop} {C : Addr} {cenv : Env} {what : String} (hst : X.stack = X.env :: X.outer) (hfr : X.env.frame = some X.env.locals) (hex : X.ex = []) (hcf : cenv.frame = X.env.frame) (I : Inv X pins σ H s) (h : CXD X.prog X.w X.stack H s E e s')
    (fC : ∀ H', H' C = none → FpOk X pins H' C) (hI : ∀ H', Un (frs X.stack) [] H H' s.heap s'.heap → HOk X.prog X.w H' s'.heap → s'.os = s.os → AllBare s'.gens → (∃ m, s'.heap.Ns C m) ∧ H' C = none) :
    wpAny M X.A (noteFrame e cenv) (fun _ s₂ => ∃ m, s₂.heap.Ns C m ∧ ∀ h', Heap.SameBut C s₂.heap h' → ∀ cenv' : Env, wpAny M X.A (PySem.passOn what e cenv' : Sem Value) (fun _ _ => False)
      (fun e s3 => wpAny M X.A (leaving X.env e) (fun _ s'' => CXD X.prog X.w X.outer X.H₀ X.s₀ E e s'') E' s3) { s₂ with heap := h' }) E1 s' := by
  obtain ⟨e0, C', d, H', rfl, os, bare, un, hok, ⟨oe, vs, T, F⟩, q⟩ := h
  have I' : Inv X pins σ H' s' := I.call' os un hok bare (fun b z => absurd z (by simp))
  obtain ⟨hN, hH⟩ := hI H' un hok os bare
  have fc := fC H' hH
  have fr := I'.stack
  rw [hst] at fr
  rw [note_env hcf]
  obtain ⟨m, hm⟩ := hN
  obtain ⟨oC, esC, epC, hoC, hdC, rC⟩ := id hm
  have h0n : ∀ b, s.heap.get? b = none → X.s₀.heap.get? b = none := fun b n => by
    cases z : X.s₀.heap.get? b with
    | none => rfl
    | some o =>
      obtain ⟨o', e'⟩ := I.base.there b o z (by rw [hex]; simp)
      rw [n] at e'
      cases e'
  have h0n' : ∀ b, s'.heap.get? b = none → X.s₀.heap.get? b = none := fun b n => by
    cases z : X.s₀.heap.get? b with
    | none => rfl
    | some o =>
      obtain ⟨o', e'⟩ := I'.base.there b o z (by rw [hex]; simp)
      rw [n] at e'
      cases e'
  have Ce : C ≠ e0 := fun z => by rw [z, F.at_] at hoC; cases hoC; rw [F.data] at hdC; cases hdC
  have CT : C ≠ T := fun z => by
    obtain ⟨oT, ts, g1, g2, g3⟩ := F.ent.ex
    rw [z, g1] at hoC; cases hoC; rw [g2] at hdC; cases hdC
  have Cf : C ∉ frs X.stack := fun z => by
    rcases List.mem_cons.mp (I.stkSub C z) with y | y
    · exact fc.2.1 y
    · exact fc.2.2.1 y
  refine noteX (by rw [← hst]; exact I.ok.frames) fr hfr F.at_ F.data F.sz (.inr ⟨T, F.one, F.ne, F.ent, rfl⟩) fun h4 T' st n1 n2 n3 => ?_
  rw [← hst] at st
  have hTe : e0 ≠ T' := fun z => by rw [← z, F.at_] at n1; cases n1
  have CT' : C ≠ T' := fun z => by rw [z, n1] at hoC; cases hoC
  have HT' : H' T' = none := hok.none_of n1
  have new : ∀ b ∈ [e0, T], s.heap.get? b = none ∧ H' b = none := fun b hb => by
    simp only [List.mem_cons, List.not_mem_nil, or_false] at hb
    rcases hb with rfl | rfl
    · exact ⟨F.ne0, F.He⟩
    · exact ⟨F.nT0, F.HT⟩
  have I4 : Inv X pins σ H' { s' with heap := h4 } := I.call' (s' := { s' with heap := h4 }) os (un.stp st (fun b hb => (new b hb).1) fun b hb => .inl hb) (hok.stp st (fun b hb => (new b hb).2) I'.stkFree) bare (fun b z => absurd z (by simp))
  have hC4 : h4.get? C = some oC := st.keep C oC hoC (by simp [Ce, CT]) Cf
  refine ⟨m, ⟨oC, esC, epC, hC4, hdC, rC⟩, fun h' hs cenv' => ?_⟩
  have I5 : Inv X pins σ H' { s' with heap := h' } := I4.off fc hs
  have e5 : h'.get? e0 = some (oe.mapFields (·.setIfInBounds 1 (.ref T'))) := (hs.2 e0 (Ne.symm Ce)).trans n2
  have T5 : Entry h' T' (rawInt X.env.locals) := by
    obtain ⟨oT, ts, g1, g2, g3⟩ := n3.ex
    exact ⟨oT, ts, (hs.2 T' (Ne.symm CT')).trans g1, g2, g3⟩
  have d5 : (oe.mapFields (·.setIfInBounds 1 (.ref T'))).data = .fields (vs.setIfInBounds 1 (.ref T')) := Obj.data_mapFields F.data _
  have o5 : (vs.setIfInBounds 1 (Value.ref T'))[1]? = some (.ref T') := by simp [F.sz]
  have s5 : 1 < (vs.setIfInBounds 1 (Value.ref T')).size := by simpa using F.sz
  unfold PySem.passOn
  refine wpAny_bind (wpAny_field e5 d5 o5 ?_)
  rw [if_neg (show ¬ ((Value.ref T' == Value.none) = true) from by simp)]
  refine wpAny_bind ?_
  obtain ⟨oT, ts, g1, g2, g3⟩ := T5.ex
  have hsz3 : 3 < ts.size := (Array.getElem?_eq_some_iff.mp g3).1
  unfold setFlight
  refine wpAny_bind (wpAny_field e5 d5 o5 ?_)
  rw [if_pos (show (Value.ref T' != Value.none) = true from by simp)]
  generalize (cenv'.frame.elim Value.none fun f => rawInt f) = v
  refine wpAny_setField g1 g2 hsz3 (wpAny_throw ?_)
  have oth : ∀ b, b ≠ T' → (h'.update T' (Obj.mapFields (·.setIfInBounds 3 v))).get? b = h'.get? b := fun b hb => Heap.get?_update_other _ _ (Ne.symm hb)
  have T6 : Entry (h'.update T' (Obj.mapFields (·.setIfInBounds 3 v))) T' v := ⟨_, _, Heap.get?_update_self _ g1 (Obj.isFreed_of_fields (Obj.data_mapFields g2 _)), Obj.data_mapFields g2 _, by simp [hsz3]⟩
  generalize h'.update T' (Obj.mapFields (·.setIfInBounds 3 v)) = h6 at oth T6
  have n0T : X.s₀.heap.get? T' = none := h0n' T' n1
  have I6 : Inv X pins σ H' { s' with heap := h6 } := I5.touch (h' := h6) HT' n0T
    (fun z => by obtain ⟨m', ⟨o, es, ep, ho, _⟩, _⟩ := I'.loc; rw [← z, n1] at ho; cases ho)
    (fun y c hy z => by obtain ⟨w, o, ho, _⟩ := I'.cell y c hy; rw [z, n1] at ho; cases ho)
    (fun p hp z => by have := (I'.pin p hp).1; rw [z, n1] at this; cases this) oth
  have fr6 := I6.stack
  rw [hst] at fr6
  have e6 : h6.get? e0 = some (oe.mapFields (·.setIfInBounds 1 (.ref T'))) := (oth e0 hTe).trans e5
  refine leaveW (s := { s' with heap := h6 }) (by rw [← hst]; exact I.ok.frames) fr6 hfr e6 d5 s5 o5 (Ne.symm hTe) T6 fun h7 T7 vs7 st7 hT7 ne7 e7 sz7 one7 two7 ent7 => ?_
  rw [← hst] at st7
  have ub : Un (frs X.outer) [] X.H₀ H' X.s₀.heap h6 := by
    have := I6.base
    rw [hex] at this
    exact this
  have new7 : ∀ b ∈ [e0, T'], X.s₀.heap.get? b = none ∧ H' b = none := fun b hb => by
    simp only [List.mem_cons, List.not_mem_nil, or_false] at hb
    rcases hb with rfl | rfl
    · exact ⟨h0n _ F.ne0, F.He⟩
    · exact ⟨n0T, HT'⟩
  refine ⟨e0, C', d, H', rfl, I6.os, I6.bare, ub.stp st7 (fun b hb => (new7 b hb).1) (fun b hb => ?_), I6.hok.stp st7 (fun b hb => (new7 b hb).2) I6.stkFree, ⟨_, vs7, T7, e7, ?_, ?_, rfl, sz7, one7, ?_, ne7, ent7, F.He, ?_, h0n _ F.ne0, ?_⟩, q⟩
  · rcases List.mem_cons.mp (I.stkSub b hb) with z | z
    · right
      rw [z]
      exact Heap.get?_none_of_le I.ok.above
    · exact .inl z
  · exact (Obj.cls_mapFields _ _).trans F.cls
  · obtain ⟨c, d, dt, sl⟩ := oe
    have := F.data
    cases this
    exact F.dict
  · rw [two7, Array.getElem?_setIfInBounds_ne (by decide)]; exact F.two
  · rcases hT7 with z | z
    · rw [z]; exact HT'
    · exact I6.hok.none_of z
  · rcases hT7 with z | z
    · rw [z]; exact n0T
    · cases y : X.s₀.heap.get? T7 with
      | none => rfl
      | some o =>
        obtain ⟨o', e'⟩ := I6.base.there T7 o y (by rw [hex]; simp)
        have z : h6.get? T7 = none := z
        have e' : h6.get? T7 = some o' := e'
        rw [z] at e'
        cases e'
end
theorem comp_turnsX {prog : Program} {w : World} {A : Around} {R : Result → Shared → Prop} {elt tg iter : Expr} {scope : Scope} {pos : Pos} {it acc : Value} {env : Env} (Iv : Nat → Shared → Prop) 
    (step : ∀ n s, Iv n s → wpAny (model prog w) A (pyNext it) (fun r s1 => match r with
      | none => R (.ok .next) s1
      | some v => wpAny (model prog w) A (letOwnedTupleGo tg it v) (fun _ s2 => wpAny (model prog w) A (assign tg env v) (fun _ s3 =>
          wpAny (model prog w) A (eval elt env) (fun y s5 => wpAny (model prog w) A (call (.builtin "list.append") [acc, y]) (fun _ s6 => ∃ m, m < n ∧ Iv m s6) (fun _ _ => False) s5) (notedBy (model prog w) A env fun x s' => R (.error x) s') s3) (fun _ _ => False) s2) (fun _ _ => False) s1) (fun _ _ => False) s)
    (n : Nat) {s : Shared} (h : Iv n s) : codeAny (model prog w) A (.compLoop (.ListComp elt [⟨tg, iter, [], 0⟩] scope pos) 0 it acc env) R s := by
  have up : ∀ {α : Type} {t : Sem α} {Q : α → Shared → Prop} {E : Value → Shared → Prop} {s : Shared}, wpAny (model prog w) A t Q (fun _ _ => False) s → wpAny (model prog w) A t Q E s :=
    fun h => wpAny_mono h (fun _ _ q => q) fun _ _ z => z.elim
  refine codeAny_loop rfl Iv (fun k s hI => ?_) n h
  show wpAny _ A ((compTurn (.ListComp elt [⟨tg, iter, [], 0⟩] scope pos) 0 it acc env).onRaise (fun x => do noteFrame x env; theTreesLotGoes x)) _ _ s
  refine wpAny_noted ?_
  rw [compTurn_list]
  refine wpAny_bind (wpAny_standAt (wpAny_bind (wpAny_mono (up (step k s hI)) (fun r s1 h1 => ?_) fun _ _ z => z)))
  cases r with
  | none => exact wpAny_pure h1
  | some v =>
    refine wpAny_bind (wpAny_mono (up h1) (fun _ s2 h2 => ?_) fun _ _ z => z)
    refine wpAny_bind (wpAny_mono (up h2) (fun _ s3 h3 => ?_) fun _ _ z => z)
    refine wpAny_bind (wpAny_tests_nil ?_)
    exact wpAny_bind (wpAny_bind (wpAny_mono h3 (fun y s5 h5 => wpAny_bind (wpAny_mono (up h5) (fun _ s6 h6 => wpAny_pure (wpAny_pure ⟨rfl, h6⟩)) fun _ _ z => z)) fun _ _ z => z))
def CompRdX (J : It) (tx : TX) (fs : List Nat) (σ : St) (H : Hp) (Q : VK) (E : XK) : Prop := ∀ D, H D = none → ∃ W : Nat → Nat → Hp → Prop, (∃ m, W 0 m (upd H D (.lst []))) ∧ ∀ i m H2, W i m H2 →
  (J.stop i H2 ∧ Q (.ref D) H2) ∨ (J.go i H2 ∧ ∀ v H3, J.yld i H2 v H3 → tx (some v :: pickS σ fs) H3 (fun y H5 => ∃ ys, H5 D = some (.lst ys) ∧ ys.length < sizeLine ∧ ∃ m', m' < m ∧ W (i + 1) m' (upd H5 D (.lst (ys ++ [y])))) E)
def tCompX (wi : TI) (tx : TX) (fs : List Nat) (E : XK) : TE := fun σ H Q => wi σ H fun J H1 => CompRdX J tx fs σ H1 Q E
section
variable {X : Cx} {elt iter : Expr} {x : Str} {px pos : Pos} {scope : Scope} {fv : List Str} {fs : List Nat} {wi : TI} {tx : TX} {E : XK}
theorem pe_compX (hc : X.calm = true) (ok : CompOk X scope x fv fs) (hi : PI X (.Name x px) iter wi) (he : ∀ C s0 H0 fp, PEX (compX X (x :: fv) scope C s0 H0 fp) elt tx)
    (hst : X.stack = X.env :: X.outer := by rfl) (hfr : X.env.frame = some X.env.locals := by rfl) (hex : X.ex = [] := by rfl)
    (hxe : X.xe = fun e s' => wpAny (model X.prog X.w) X.A (leaving X.env e) (fun _ s'' => CXD X.prog X.w X.outer X.H₀ X.s₀ E e s'') (fun e' s'' => CXD X.prog X.w X.outer X.H₀ X.s₀ E e' s'') s' := by rfl)
    (hs : ∀ x, foldedSetIterable iter X.env x = pure x := by intro _; rfl) : PE X (.ListComp elt [⟨.Name x px, iter, [], 0⟩] scope pos) (tCompX wi tx fs E) := by
  intro pins s σ H Q I h
  rw [eval_ListComp]
  refine wpAny_comprehension_free (use := none) rfl hs (closureFor_closL (ok.cells I)) ok.kind ok.names (thn (hi pins s σ H _ I h) fun xv s1 h1 => thn h1 fun itv s2 h2 => ?_)
  obtain ⟨it, fp, tn, J, H2, rfl, I2, T, st2, hf, rd⟩ := h2
  clear h h1 I
  generalize H2 = H at *
  obtain ⟨W, ⟨m0, w0⟩, turn⟩ := rd s2.heap.objs.size I2.fresh
  have I3 : Inv X pins σ (upd H s2.heap.objs.size (.lst [])) { s2 with heap := s2.heap.push { cls := .type "list", dict := none, data := .seq ([] : List Value).toArray } } := I2.lnew (its := []) (ys := []) (t' := s2.toks) .nil (Nat.zero_le _)
  refine wpAny_newObj_type ?_
  show wpAny _ _ _ _ _ ({ s2 with heap := s2.heap.push { cls := .type "list", dict := none, data := .seq ([] : List Value).toArray } } : Shared)
  generalize hs3 : ({ s2 with heap := s2.heap.push { cls := .type "list", dict := none, data := .seq ([] : List Value).toArray } } : Shared) = s3 at I3 ⊢
  refine wpAny_blockEnv (b := false) (x := x) ok.cel fun h1 hns kept hcel => ?_
  have eh : s3.heap = s2.heap.push { cls := .type "list", dict := none, data := .seq ([] : List Value).toArray } := by rw [← hs3]
  have up3 : ∀ b o, s2.heap.get? b = some o → s3.heap.get? b = some o := fun b o e => by rw [eh]; exact Heap.get?_push_of_some _ e
  have hfo : ∀ b ∈ fp, ∃ o, s3.heap.get? b = some o := fun b hb => let ⟨o, ho, _⟩ := T.obj 0 _ st2 b hb; ⟨o, up3 b o ho⟩
  have neD : ∀ b ∈ fp, b ≠ s2.heap.objs.size := fun b hb => let ⟨o, ho, _⟩ := T.obj 0 _ st2 b hb; Nat.ne_of_lt (Heap.lt_size ho)
  have hf3 : ∀ b ∈ fp, FpOk X pins (upd H s2.heap.objs.size (.lst [])) b := fun b hb => ⟨by rw [upd_ne (neD b hb)]; exact (hf b hb).1, (hf b hb).2⟩
  have I4 := comp_enter (tk := s3.toks) ok I3 hf3 hfo hns kept hcel
  have st4 : tn 0 h1 := T.keep 0 _ _ st2 fun b hb o e => kept b o (up3 b o e)
  have stat : ∀ {H' : Hp}, (∀ b ∈ fp, H' b = none) → ∀ a ∈ fp, FpOk (compXE X (exB false x s3.heap.objs.size) (x :: fv) scope s3.heap.objs.size s3 (upd H s2.heap.objs.size (.lst [])) fp) [] H' a := fun hn b hb =>
    ⟨hn b hb, (I4.ok.exf b hb).1, I4.ok.exfs b hb, .inl hb, (I4.ok.exf b hb).2, fun p hp => absurd hp (by simp)⟩
  have hg : PG (compXE X (exB false x s3.heap.objs.size) (x :: fv) scope s3.heap.objs.size s3 (upd H s2.heap.objs.size (.lst [])) fp) (.Name x px) (gName 0) := by
    have tg := ok.tg
    exact pg_name ok.nd rfl (.inl (lookup_relabel_local tg)) (.inr (lookup_relabel_local tg))
  have loop : codeAny (model X.prog X.w) X.A (.compLoop (.ListComp elt [⟨.Name x px, iter, [], 0⟩] scope pos) 0 (.ref it) (.ref s2.heap.objs.size) (compEnvC scope (exB false x s3.heap.objs.size ++ closL X.env.cells scope.names []) s3.heap.objs.size X.env)) (compPost (model X.prog X.w) X.A X.xe none (EP X pins σ Q) (.ref s2.heap.objs.size) s3.heap.objs.size)
      { s3 with heap := h1 } := by
    refine comp_turnsX (fun n s' => ∃ i o H', Inv (compXE X (exB false x s3.heap.objs.size) (x :: fv) scope s3.heap.objs.size s3 (upd H s2.heap.objs.size (.lst [])) fp) [] (o :: pickS σ fs) H' s' ∧ tn i s'.heap ∧ (∀ b ∈ fp, H' b = none) ∧ W i n H') ?_ m0
      ⟨0, none, _, I4, st4, fun b hb => (hf3 b hb).1, w0⟩
    rintro n s5 ⟨i, o, H5, I5, st5, fr5, w5⟩
    rcases turn i n H5 w5 with ⟨stop, q⟩ | ⟨go, step⟩
    · refine thn (T.done (compXE X (exB false x s3.heap.objs.size) (x :: fv) scope s3.heap.objs.size s3 (upd H s2.heap.objs.size (.lst [])) fp) rfl rfl rfl hc i [] s5 _ H5 _ I5 (stat fr5) st5 stop) fun r s6 ⟨hr, I6⟩ => ?_
      subst hr
      obtain ⟨m, hm, _⟩ := I6.loc
      exact ⟨m, hm, fun h' hs' => ⟨.ref s2.heap.objs.size, H5, (comp_leave I3 hf3 I6).off (I3.fpOk (Nat.le_refl _) I6.free) hs', rfl, q⟩⟩
    · refine thn (T.item (compXE X (exB false x s3.heap.objs.size) (x :: fv) scope s3.heap.objs.size s3 (upd H s2.heap.objs.size (.lst [])) fp) rfl rfl rfl hc i [] s5 _ H5 _ I5 (stat fr5) st5 go) fun r s6 ⟨u, hr, h6⟩ => ?_
      subst hr
      refine thn h6 fun _ s7 ⟨v, H7, I7, r7, y7, st7, fr7⟩ => ?_
      have I7' := I7.pinned (stat fr7) (T.obj _ _ st7)
      have back : ∀ {σ9 : St} {H9 : Hp} {s9 : Shared}, Inv (compXE X (exB false x s3.heap.objs.size) (x :: fv) scope s3.heap.objs.size s3 (upd H s2.heap.objs.size (.lst [])) fp) ([] ++ pinsAt fp s7.heap) σ9 H9 s9 → tn (i + 1) s9.heap ∧ ∀ b ∈ fp, H9 b = none := fun {σ9 H9 s9} I9 =>
        ⟨T.keep _ _ _ st7 fun b hb o e => (I9.pin (b, o) (mem_pinsAt hb e)).1, fun b hb => by
          obtain ⟨o, e, _⟩ := T.obj _ _ st7 b hb
          exact (I9.pin (b, o) (mem_pinsAt hb e)).2.1⟩
      refine thn (hg _ s7 _ H7 v u (fun σ2 H2 => σ2 = some v :: pickS σ fs ∧ H2 = H7) I7' r7 ⟨rfl, rfl⟩) fun _ s8 ⟨σ8, H8, I8, e8, e8'⟩ => ?_
      subst e8 e8'
      refine wpAny_mono (he s3.heap.objs.size s3 (upd H s2.heap.objs.size (.lst [])) fp _ s8 _ H8 _ E I8 (step v H8 y7)) (fun y s10 z10 => ?_) fun ex s10 z10 => ?_
      · obtain ⟨yv, H10, I10, r10, ys, hD, hz, m', hm', w10⟩ := z10
        refine thn (mt_append _ s10 _ H10 (.ref s2.heap.objs.size) [yv] (.ref s2.heap.objs.size) [y] (fun _ H' => H' = upd H10 s2.heap.objs.size (.lst (ys ++ [yv]))) I10 rfl (.cons r10 .nil) ⟨_, ys, yv, rfl, rfl, hD, hz, rfl⟩) fun _ s11 ⟨_, H11, I11, _, e11⟩ => ?_
        subst e11
        obtain ⟨b1, b2⟩ := back I11
        exact ⟨m', hm', i + 1, some v, _, I11.unpinned, b1, b2, w10⟩
      · obtain ⟨H1', s1', J, hcx⟩ := z10
        have JX := comp_leave I3 hf3 J.unpinned
        refine wpAny_mono (comp_raise (M := model X.prog X.w) (E1 := fun _ _ => False) (E' := fun e' s'' => CXD X.prog X.w X.outer X.H₀ X.s₀ E e' s'') (C := s3.heap.objs.size) (what := "comprehension.variables-let-go") hst hfr hex (cenv := compEnvC scope (exB false x s3.heap.objs.size ++ closL X.env.cells scope.names []) s3.heap.objs.size X.env) rfl JX hcx (fun H' hn => I3.fpOk (Nat.le_refl _) hn) (fun H' un hok os bare => ?_)) (fun _ s12 z12 => ?_) fun _ _ z => False.elim z
        · have J' := J.call' (s' := s10) os un hok bare (fun b z => absurd z (by simp))
          obtain ⟨m, hm, _⟩ := J'.loc
          exact ⟨⟨m, hm⟩, J'.free⟩
        · obtain ⟨m, hm, k⟩ := z12
          rw [hxe]
          exact ⟨m, hm, fun h' hs' cenv' _ => k h' hs' cenv'⟩
  exact codeAny_compStart_list loop (T.self _ 0 _ _ _ st4 loop)
end
end L2

set_option Elab.async false
set_option linter.all false
set_option maxRecDepth 1000
set_option maxHeartbeats 4000000
namespace L2
open PySem PySem.Spec PyProof.Rows PySem.Builtin PySem.Builtin.Str
def n32 (c : Nat) : Bool := c != 32
def hd32 (l : List Nat) : List Nat := l.takeWhile n32
def tl32 (l : List Nat) : List Nat := (l.dropWhile n32).drop 1
theorem tw_take {f : Nat → Bool} : ∀ {l : List Nat} {i c : Nat}, l[i]? = some c → f c = false → (∀ k, k < i → ∀ d, l[k]? = some d → f d = true) → l.takeWhile f = l.take i ∧ l.dropWhile f = l.drop i
  | [], _, _, h, _, _ => nomatch h
  | x :: l, 0, c, h, hc, _ => by
    have : x = c := by simpa using h
    subst this
    rw [List.takeWhile_cons, List.dropWhile_cons, hc]
    exact ⟨rfl, rfl⟩
  | x :: l, i + 1, c, h, hc, hn => by
    have hx := hn 0 (Nat.succ_pos _) x rfl
    have ih := tw_take (l := l) (i := i) (by simpa using h) hc fun k hk d hd => hn (k + 1) (Nat.succ_lt_succ hk) d (by simpa using hd)
    rw [List.takeWhile_cons, List.dropWhile_cons, hx]
    exact ⟨congrArg (x :: ·) ih.1, ih.2⟩
theorem part_sgn (x : Str) : sgn (Txt.partition x ⟨#[32]⟩).1 = hd32 (sgn x) ∧ sgn (Txt.partition x ⟨#[32]⟩).2.2 = tl32 (sgn x) := by
  unfold Txt.partition hd32 tl32
  rcases StrLaws.occ_head x ⟨#[32]⟩ 1 (Nat.le_refl 1) with ⟨e, hn⟩ | ⟨i, r, e, ha, hn⟩
  · rw [e]
    have al : (sgn x).all n32 = true := by
      rw [List.all_eq_true]
      intro c hc
      obtain ⟨j, hj⟩ := List.getElem?_of_mem hc
      unfold n32
      rw [bne_iff_ne]
      intro z
      subst z
      exact hn j ((StrLaws.subAt_one x 32 j).mpr hj)
    obtain ⟨h1, h2⟩ := tw_end al
    rw [h1, h2]
    exact ⟨rfl, rfl⟩
  · rw [e]
    have hi := (StrLaws.subAt_one x 32 i).mp ha
    obtain ⟨h1, h2⟩ := tw_take (f := n32) (l := sgn x) (i := i) (c := 32) hi rfl fun k hk d hd => by
      unfold n32
      rw [bne_iff_ne]
      intro z
      subst z
      exact hn k hk ((StrLaws.subAt_one x 32 k).mpr hd)
    rw [h1, h2]
    dsimp only
    have e1 : sgn (strSub x 0 i) = (sgn x).take i := by
      show (strSub x 0 i).cps.toList = _
      rw [StrLaws.strSub_toList]
      simp [sgn]
    have e2 : sgn (strSub x (i + (⟨#[32]⟩ : Str).length) x.length) = ((sgn x).drop i).drop 1 := by
      show (strSub x (i + 1) x.length).cps.toList = _
      rw [StrLaws.strSub_toList, List.drop_drop]
      refine List.take_of_length_le ?_
      show ((x.cps.toList).drop (i + 1)).length ≤ _
      rw [List.length_drop, Array.length_toList]
      exact Nat.le_refl _
    exact ⟨e1, e2⟩
def cons1 (d : Nat) : List (List Nat) → List (List Nat)
  | [] => [[d]]
  | p :: ps => (d :: p) :: ps
def spl1 (c : Nat) : List Nat → List (List Nat)
  | [] => [[]]
  | d :: r => if d = c then [] :: spl1 c r else cons1 d (spl1 c r)
theorem spl1_go {c : Nat} {r : List Nat} : ∀ {a : List Nat}, c ∉ a → spl1 c (a ++ c :: r) = a :: spl1 c r
  | [], _ => by simp [spl1]
  | x :: a, h => by
    have hx : x ≠ c := fun z => h (by rw [z]; exact List.mem_cons_self)
    show (if x = c then _ else cons1 x (spl1 c (a ++ c :: r))) = _
    rw [if_neg hx, spl1_go (fun z => h (List.mem_cons_of_mem _ z))]
    rfl
theorem spl1_end {c : Nat} : ∀ {a : List Nat}, c ∉ a → spl1 c a = [a]
  | [], _ => rfl
  | x :: a, h => by
    have hx : x ≠ c := fun z => h (by rw [z]; exact List.mem_cons_self)
    show (if x = c then _ else cons1 x (spl1 c a)) = _
    rw [if_neg hx, spl1_end (fun z => h (List.mem_cons_of_mem _ z))]
    rfl
theorem sgn_app {a b : Str} : sgn (a ++ b) = sgn a ++ sgn b := by
  show (a.cps ++ b.cps).toList = _
  rw [Array.toList_append]
theorem join_one {y p : Str} : Str.join y [p] = p := rfl
theorem join_two {y p q : Str} {r : List Str} : Str.join y (p :: q :: r) = p ++ y ++ Str.join y (q :: r) := rfl
theorem spl1_of {c : Nat} : ∀ {ps : List Str}, ps ≠ [] → (∀ p ∈ ps, c ∉ sgn p) → spl1 c (sgn (Str.join ⟨#[c]⟩ ps)) = ps.map sgn
  | [], h, _ => absurd rfl h
  | [p], _, h => by rw [join_one, spl1_end (h p List.mem_cons_self)]; rfl
  | p :: q :: r, _, h => by
    rw [join_two, sgn_app, sgn_app, List.append_assoc]
    show spl1 c (sgn p ++ c :: sgn (Str.join ⟨#[c]⟩ (q :: r))) = _
    rw [spl1_go (h p List.mem_cons_self), spl1_of (ps := q :: r) (by simp) (fun z hz => h z (List.mem_cons_of_mem _ hz))]
    rfl
theorem split_ne (x y : Str) : Txt.split x y ≠ [] := by
  unfold Txt.split
  split
  · simp
  · split
    · simp
    · unfold partsBetween
      intro z
      have := congrArg List.length z
      simp at this
theorem split_one (x : Str) (c : Nat) : (Txt.split x ⟨#[c]⟩).map sgn = spl1 c (sgn x) := by
  rw [← spl1_of (split_ne _ _) (StrLaws.split_free x c), StrLaws.join_split]
def fr2 : List Nat → Bool
  | [] => true
  | c :: r => !(c == 59 && r.head? == some 32) && fr2 r
def spl2 : List Nat → List (List Nat)
  | [] => [[]]
  | [c] => [[c]]
  | c :: d :: r => if c = 59 ∧ d = 32 then [] :: spl2 r else cons1 c (spl2 (d :: r))
theorem spl2_end : ∀ {a : List Nat}, fr2 a = true → spl2 a = [a]
  | [], _ => rfl
  | [c], _ => rfl
  | c :: d :: a, h => by
    unfold fr2 at h
    rw [Bool.and_eq_true] at h
    unfold spl2
    rw [if_neg, spl2_end h.2]
    · rfl
    · rintro ⟨rfl, rfl⟩
      exact absurd h.1 (by simp)
theorem spl2_go {r : List Nat} : ∀ {a : List Nat}, fr2 a = true → spl2 (a ++ 59 :: 32 :: r) = a :: spl2 r
  | [], _ => by simp [spl2]
  | [c], _ => by
    show (if c = 59 ∧ (59 : Nat) = 32 then _ else cons1 c (spl2 (59 :: 32 :: r))) = _
    rw [if_neg (fun z => absurd z.2 (by decide))]
    have : spl2 (59 :: 32 :: r) = [] :: spl2 r := by simp [spl2]
    rw [this]
    rfl
  | c :: d :: a, h => by
    unfold fr2 at h
    rw [Bool.and_eq_true] at h
    show (if c = 59 ∧ d = 32 then _ else cons1 c (spl2 (d :: a ++ 59 :: 32 :: r))) = _
    rw [if_neg, spl2_go h.2]
    · rfl
    · rintro ⟨rfl, rfl⟩
      exact absurd h.1 (by simp)
def sep2 : Str := ⟨#[59, 32]⟩
theorem spl2_of : ∀ {ps : List Str}, ps ≠ [] → (∀ p ∈ ps, fr2 (sgn p) = true) → spl2 (sgn (Str.join sep2 ps)) = ps.map sgn
  | [], h, _ => absurd rfl h
  | [p], _, h => by rw [join_one, spl2_end (h p List.mem_cons_self)]; rfl
  | p :: q :: r, _, h => by
    rw [join_two, sgn_app, sgn_app, List.append_assoc]
    show spl2 (sgn p ++ 59 :: 32 :: sgn (Str.join sep2 (q :: r))) = _
    rw [spl2_go (h p List.mem_cons_self), spl2_of (ps := q :: r) (by simp) (fun z hz => h z (List.mem_cons_of_mem _ hz))]
    rfl
theorem fr2_of : ∀ {l : List Nat}, (∀ k, ¬ (l[k]? = some 59 ∧ l[k + 1]? = some 32)) → fr2 l = true
  | [], _ => rfl
  | c :: r, h => by
    unfold fr2
    rw [fr2_of (l := r) fun k hk => h (k + 1) (by simpa using hk), Bool.and_true]
    by_cases hc : c = 59
    · subst hc
      have := h 0
      cases r with
      | nil => rfl
      | cons d r =>
        by_cases hd : d = 32
        · subst hd; exact absurd ⟨rfl, rfl⟩ this
        · simp [hd]
    · simp [hc]
theorem at_two {x : Str} {i : Nat} (h1 : (sgn x)[i]? = some 59) (h2 : (sgn x)[i + 1]? = some 32) : StrLaws.At x sep2 x.length i := by
  have l2 := (List.getElem?_eq_some_iff.mp h2).1
  have l2' : i + 1 < x.length := by rw [str_len]; exact l2
  refine ⟨l2', ?_⟩
  rw [StrLaws.subAt_eq]
  have e : (x.cps.toList.drop i).take 2 = [59, 32] := by
    show ((sgn x).drop i).take 2 = _
    refine List.ext_getElem? fun k => ?_
    match k with
    | 0 => rw [List.getElem?_take_of_lt (by decide), List.getElem?_drop]; exact h1
    | 1 => rw [List.getElem?_take_of_lt (by decide), List.getElem?_drop]; exact h2
    | k + 2 => rw [List.getElem?_eq_none (by rw [List.length_take]; lia)]; rfl
  show ((x.cps.toList.drop i).take 2 == [59, 32]) = true
  rw [e]
  decide
theorem part_fr2 (x : Str) (a b : Nat) (hb : b ≤ x.length) (hn : ∀ k, a ≤ k → k < b → ¬ StrLaws.At x sep2 x.length k) : fr2 (sgn (strSub x a b)) = true := by
  refine fr2_of fun k hk => ?_
  have e : sgn (strSub x a b) = ((sgn x).drop a).take (b - a) := StrLaws.strSub_toList ..
  rw [e] at hk
  obtain ⟨h1, h2⟩ := hk
  have l2 : k + 1 < b - a := by
    have := (List.getElem?_eq_some_iff.mp h2).1
    rw [List.length_take] at this
    lia
  rw [List.getElem?_take_of_lt (by lia), List.getElem?_drop] at h1
  rw [List.getElem?_take_of_lt l2, List.getElem?_drop] at h2
  exact hn (a + k) (by lia) (by lia) (at_two h1 (by rw [Nat.add_assoc]; exact h2))
theorem parts_fr2 (x : Str) : ∀ (cuts : List Nat) (a f : Nat), StrLaws.ChainG x sep2 x.length a cuts f → (∀ k, f ≤ k → ¬ StrLaws.At x sep2 x.length k) → ∀ p ∈ StrLaws.partsFrom x 2 a cuts, fr2 (sgn p) = true
  | [], a, f, h, hn, p, hp => by
    have e : f = a := h
    subst e
    rw [List.mem_singleton.mp hp]
    exact part_fr2 x f x.length (Nat.le_refl _) fun k h1 _ => hn k h1
  | d :: r, a, f, h, hn, p, hp => by
    rcases List.mem_cons.mp hp with rfl | hp'
    · exact part_fr2 x a d (by have := h.2.1.1; lia) h.2.2.1
    · exact parts_fr2 x r _ f h.2.2.2 hn p hp'
theorem split_fr2 (x : Str) : ∀ p ∈ Txt.split x sep2, fr2 (sgn p) = true := by
  obtain ⟨f, hG, hn⟩ := StrLaws.occ_tight x sep2 (by decide)
  unfold Txt.split
  split
  · rename_i hc
    intro p hp
    rw [List.mem_singleton.mp hp]
    refine fr2_of fun k hk => ?_
    have hA := at_two hk.1 hk.2
    rw [Bool.or_eq_true, decide_eq_true_eq, decide_eq_true_eq] at hc
    rcases hc with h | h
    · have := hA.1; lia
    · have : Str.strKind sep2 = 1 := by decide +kernel
      rw [this] at h
      unfold Str.strKind at h
      split at h
      · lia
      · split at h <;> lia
  · split
    · rename_i he
      intro p hp
      rw [List.mem_singleton.mp hp]
      have e0 : occurrences x sep2 0 x.length (x.length + 1) = [] := List.isEmpty_iff.mp he
      rw [e0] at hG
      have ef : f = 0 := hG
      subst ef
      rw [← StrLaws.sub_whole x]
      exact part_fr2 x 0 x.length (Nat.le_refl _) fun k h1 _ => hn k h1
    · rw [StrLaws.partsBetween_eq]
      exact parts_fr2 x _ 0 f hG hn
theorem sgn_inj {a b : Str} (h : sgn a = sgn b) : a = b := by
  obtain ⟨a⟩ := a
  obtain ⟨b⟩ := b
  have : a.toList = b.toList := h
  rw [Array.toList_inj.mp this]
theorem map_inj : ∀ {a b : List Str}, a.map sgn = b.map sgn → a = b
  | [], [], _ => rfl
  | [], _ :: _, h => nomatch h
  | _ :: _, [], h => nomatch h
  | x :: a, y :: b, h => by
    rw [List.map_cons, List.map_cons] at h
    injection h with h1 h2
    rw [sgn_inj h1, map_inj h2]
theorem split_join {ps : List Str} (h : ps ≠ []) (hf : ∀ p ∈ ps, fr2 (sgn p) = true) : Txt.split (Str.join sep2 ps) sep2 = ps := by
  refine map_inj ?_
  rw [← spl2_of h hf, ← spl2_of (split_ne _ _) (split_fr2 _), StrLaws.join_split]
theorem fr2_no : ∀ {l : List Nat}, 59 ∉ l → fr2 l = true
  | [], _ => rfl
  | c :: r, h => by
    unfold fr2
    have hc : c ≠ 59 := fun z => h (by rw [z]; exact List.mem_cons_self)
    rw [fr2_no (fun z => h (List.mem_cons_of_mem _ z)), Bool.and_true]
    simp [hc]
theorem fr2_last : ∀ {l : List Nat}, 59 ∉ l → fr2 (l ++ [59]) = true
  | [], _ => rfl
  | c :: r, h => by
    show (!(c == 59 && (r ++ [59]).head? == some 32) && fr2 (r ++ [59])) = true
    have hc : c ≠ 59 := fun z => h (by rw [z]; exact List.mem_cons_self)
    rw [fr2_last (fun z => h (List.mem_cons_of_mem _ z)), Bool.and_true]
    simp [hc]
end L2

set_option Elab.async false
set_option linter.all false
set_option maxRecDepth 100000
set_option maxHeartbeats 4000000
namespace L2
open PySem PySem.Spec PyProof.Rows
abbrev TSX := Ends → St → Hp → XK → Prop
def PSX (X : Cx) (st : Stmt) (t : TSX) : Prop := ∀ (pins : List (Addr × Obj)) (s : Shared) (σ : St) (H : Hp) (D : Ends) (E : XK), Inv X pins σ H s → t D σ H E → wpAny (model X.prog X.w) X.A (exec st X.env) (SP X pins D) (OutX X pins σ E) s
section
variable {X : Cx} {e o c : Expr} {st : Stmt} {sts a b : List Stmt} {tx : TX} {ts tu : TSX} {tc : TT} {th : TH} {h1 : ExceptHandler} {hs : List ExceptHandler} {pos tp apos cpos : Pos} {name : Str} {T id : String} {to : TE} {r : V → List V → Hp → VK → Prop}
theorem px_bm (pa : PlainAttrs T) (slot : Slot T name id) (hty : typeOf (.builtin id) = pure (.type "method_descriptor")) (hm : MtR X.nox id r) (ho : PE X.nox o to) (ha : PEX X e tx)
    (hbase : attributeBase o name X.env (eval o X.env) = eval o X.env := by rfl)
    (hfew : ((backTo cpos (starEach [e] X.env)).all (fun x => !x.1) && (backToKw cpos (keywordEach [] X.env)).all (fun x => x.1.isSome)
      && decide ([e].length + ([] : List Keyword).length + (if ([] : List Keyword).isEmpty then 0 else 1) < 30)) = true := by rfl)
    (hline : (apos.endLine == cpos.line) = true := by rfl) (hs : starEach [e] X.env = (false, eval e X.env) :: starEach [] X.env := by rfl) :
    PEX X (.Call (.Attribute o name apos) [e] [] cpos) (fun σ H Q E => to σ H fun x H1 => tyV X.K T x H1 ∧ tx σ H1 (fun y H2 => r x [y] H2 Q) E) := by
  intro pins s σ H Q E I h
  refine wpAny_Call_method_late hbase hfew hline rfl (wpAny_mono (ho pins s σ H _ (I.wish _) h) (fun v s1 zq => ?_) fun _ _ z => False.elim z)
  obtain ⟨x, H1, I1', r1, ty, q1⟩ := zq
  have I1 : Inv X pins σ H1 s1 := I1'.unwish
  obtain ⟨h1, h2⟩ := tyV_is I1 r1 ty
  refine ⟨T, id, pa, slot, hty, h1, h2, ?_⟩
  rw [hs]
  refine Calls.callWith_builtin (by rfl) (Calls.evalArgs_plain ?_)
  show wpAny _ _ (spliced ((false, eval e X.env) :: backTo cpos (starEach [] X.env))) _ _ s1
  refine Calls.spliced_cons (wpAny_mono (ha pins s1 σ H1 _ E I1 q1) (fun u s2 zq => zq.elim fun y H2 I2 r2 q2 => ?_) fun _ _ z => z)
  refine wpAny_mono ((pa_nil : PA X.nox [] tNil) cpos pins s2 σ H2 _ (I2.wish _) (show tNil σ H2 (fun vs H3 => vs = [] ∧ H3 = H2) from ⟨rfl, rfl⟩)) (fun us s3 zq => ?_) fun _ _ z => False.elim z
  obtain ⟨vs, H3, I3, r3, ev, eh⟩ := zq
  subst ev eh
  obtain rfl := r3.zero
  refine wpAny_mono (hm pins s3 σ H3 x [y] v [u] Q I3 r1 (.cons r2 .nil) q2) (fun w s4 zq => zq.elim fun z H4 I4 r4 q4 => ⟨z, H4, I4.unwish, r4, q4⟩) fun _ _ z => False.elim z
theorem psx_expr (he : PEX X e tx) (hs : swapsWith e none pos.line X.env = pure false := by rfl) : PSX X (.Expr e pos) (fun D σ H E => tx σ H (fun _ H1 => D.nx σ H1) E) := by
  intro pins s σ H D E I h
  exact wpAny_Expr_any (wpAny_mono (he pins s σ H _ E I h) (fun v s1 zq => zq.elim fun x H1 I1 r1 q1 => ⟨σ, H1, I1, q1⟩) fun _ _ z => z) I.quiet hs
theorem psx_if (hc : PT X.nox c tc) (ha : PSX X st ts) (hb : PSX X e' tu) : PSX X (.If c [st] [e'] pos) (fun D σ H E => tc σ H fun b H1 => if b = true then ts D σ H1 E else tu D σ H1 E) := by
  intro pins s σ H D E I h
  have one : ∀ {st' : Stmt} {s' : Shared} {F : Value → Shared → Prop}, wpAny (model X.prog X.w) X.A (exec st' X.env) (SP X pins D) F s' → wpAny (model X.prog X.w) X.A (execs [st'] X.env) (SP X pins D) F s' := fun k =>
    wpAny_execs_cons (wpAny_mono k (fun fl s1 z => by
      cases fl with
      | next => exact wpAny_execs_nil z
      | brk => exact z
      | cont => exact z
      | ret u => exact z) fun _ _ z => z)
  refine wpAny_If (wpAny_mono (hc pins s σ H _ (I.wish _) h) (fun d s1 zq => ?_) fun _ _ z => False.elim z)
  obtain ⟨H1, I1, q1⟩ := zq
  cases d with
  | true => exact one (ha pins s1 σ H1 D E I1.unwish q1)
  | false => exact one (hb pins s1 σ H1 D E I1.unwish q1)
def tTryY (K : PySem.W.Frag) (ts : TSX) (th : TH) : TS := fun D σ H => ts D σ H (fun c d H2 => c = .none ∨ TryE K th D σ c d H2)
theorem ps_tryY (hst : X.stack = X.env :: X.outer) (hfr : X.env.frame = some X.env.locals) (hex : X.ex = []) (hc : PSX X st ts) (hh : PH X (h1 :: hs) th) : PS X (.Try [st] (h1 :: hs) [] [] tp) (tTryY X.K ts th) := by
  intro pins s σ H D I h
  refine wpAny_Try_except (wpAny_execs_cons (wpAny_mono (hc pins s σ H D _ I h) (fun fl s1 z => ?_) fun ex s' o => seenX hst hfr hex o fun s2 H2 h0 ea C T d oe vs ee q F n0 np mk => ?_))
  · cases fl with
    | next => exact wpAny_execs_nil (wpAny_execs_nil z)
    | brk => exact z
    | cont => exact z
    | ret u => exact z
  · rcases q with q | ⟨C', ec, kC, q⟩
    · cases q
    cases ec
    exact hh pins s2 σ H2 D h0 ea C T d oe vs _ F n0 np mk kC q
def tTryW (K : PySem.W.Frag) (ts : TSX) (th : TH) : TS := fun D σ H => ts D σ H (TryE K th D σ)
theorem ps_tryW (hst : X.stack = X.env :: X.outer) (hfr : X.env.frame = some X.env.locals) (hex : X.ex = []) (hc : PSX X st ts) (hh : PHn X (h1 :: hs) th) : PS X (.Try [st] (h1 :: hs) [] [] tp) (tTryW X.K ts th) := by
  intro pins s σ H D I h
  refine wpAny_Try_except (wpAny_execs_cons (wpAny_mono (hc pins s σ H D _ I h) (fun fl s1 z => ?_) fun ex s' o => seenX hst hfr hex o fun s2 H2 h0 ea C T d oe vs ee q F n0 np mk => ?_))
  · cases fl with
    | next => exact wpAny_execs_nil (wpAny_execs_nil z)
    | brk => exact z
    | cont => exact z
    | ret u => exact z
  · obtain ⟨C', ec, kC, q⟩ := q
    cases ec
    have F' : FlyD False d H2 h0 s2.heap ea C oe vs T := { F with two := F.two.imp id fun y => by obtain ⟨_, ec, _⟩ := y; cases ec }
    exact hh pins s2 σ H2 D h0 ea C T d oe vs F' n0 np mk kC q
end
end L2

set_option Elab.async false
set_option linter.all false
set_option maxRecDepth 1000
set_option maxHeartbeats 4000000
namespace L2
open PySem PySem.Spec PyProof.Rows
def stepS (s : Str) : Option V := if nameS (sgn s) = true then some (.str s) else if figB (sgn s) = true then some (.int ((PySem.NumText.digitsVal (sgn s) : Nat) : Int)) else none
inductive spStepI (c : Nat → Addr) (vs : List V) (H : Hp) (Q : VK) (E : XK) : Prop
  | mk (s : Str) (x0 : vs = [.str s]) (ls : s.length ≤ 1000) (q : ∀ v, stepS s = some v → ∀ H', Same H H' → Q v H') (e : Bad c H (stepS s) E)
def spStep (c : Nat → Addr) : Sp := fun vs H Q E => spStepI c vs H Q E
def allS : List Str → Option (List V)
  | [] => some []
  | s :: r => (stepS s).bind fun v => (allS r).map (v :: ·)
def pathV (x : Str) : Option (List V) := if (sgn x).head? = some 47 then (if x = "/" then some [] else allS (Txt.split (Txt.slice x (some 1) none) "/")) else none
inductive spRPathI (c : Nat → Addr) (K : PySem.W.Frag) (vs : List V) (H : Hp) (Q : VK) (E : XK) : Prop
  | txt (x : Str) (x0 : vs = [.str x]) (lx : x.length ≤ 1000) (q : ∀ vs, pathV x = some vs → ∀ p H', Same H H' → SqT K H' p vs → Q (.ref p) H') (e : Bad c H (pathV x) E) : spRPathI c K vs H Q E
  | odd (v : V) (T : String) (x0 : vs = [v]) (t : TyN H v T) (n : isiB T "str" = false) (e : Bad c H (none : Option Unit) E) : spRPathI c K vs H Q E
def spRPath (c : Nat → Addr) (K : PySem.W.Frag) : Sp := fun vs H Q E => spRPathI c K vs H Q E
def okO {α : Type} (o : Option α) : Option Unit := o.map fun _ => ()
def thingO (w t : Str) : Option Unit := if inV (.str w) (wordsWV.map V.str) = true then okO (pd (sgn t)) else if w = "is" then (if inV (.str t) (wordsKI.map V.str) = true then some () else none) else okO (pathV t)
inductive spRThI (c : Nat → Addr) (vs : List V) (H : Hp) (Q : VK) (E : XK) : Prop
  | mk (w t : Str) (x0 : vs = [.str w, .str t]) (lw : w.length ≤ 1000) (lt : t.length ≤ 1000) (q : thingO w t = some () → ∀ v H', Same H H' → Q v H') (e : Bad c H (thingO w t) E)
def spRTh (c : Nat → Addr) : Sp := fun vs H Q E => spRThI c vs H Q E
def rowO (x : Str) : Option Unit :=
  (valV lens (.inr (Txt.partition x " ").1)).bind fun k => if k = .int 2 then okO (pathV (Txt.partition x " ").2.2) else
    (pathV (Txt.partition (Txt.partition x " ").2.2 " ").1).bind fun _ => thingO (Txt.partition x " ").1 (Txt.partition (Txt.partition x " ").2.2 " ").2.2
inductive spRRowI (c : Nat → Addr) (vs : List V) (H : Hp) (Q : VK) (E : XK) : Prop
  | mk (x : Str) (x0 : vs = [.str x]) (lx : x.length ≤ 1000) (q : rowO x = some () → ∀ v H', Same H H' → Q v H') (e : Bad c H (rowO x) E)
def spRRow (c : Nat → Addr) : Sp := fun vs H Q E => spRRowI c vs H Q E
def badAt : List Str → Nat → Option Nat
  | [], _ => none
  | x :: r, i => if (rowO x).isSome then badAt r (i + 1) else some i
inductive spRRowsI (c : Nat → Addr) (vs : List V) (H : Hp) (Q : VK) (E : XK) : Prop
  | txt (x : Str) (i : Nat) (x0 : vs = [.str x]) (lx : x.length ≤ 1000) (ne : x ≠ "") (b : badAt (Txt.split x "; ") 0 = some i) (e : ∀ d H', Same H H' → HasF 5 i 0 d H' → E .none d H' ∧ E (.ref (c 5)) d H') : spRRowsI c vs H Q E
  | odd (v : V) (T : String) (x0 : vs = [v]) (t : TyN H v T) (n : isiB T "str" = false) (e : Bad c H (none : Option Unit) E) : spRRowsI c vs H Q E
def spRRows (c : Nat → Addr) : Sp := fun vs H Q E => spRRowsI c vs H Q E
theorem app_len {a b : Str} : (a ++ b).length = a.length + b.length := by
  rw [str_len, sgn_app, List.length_append, ← str_len, ← str_len]
theorem part_len {y : Str} : ∀ {ps : List Str} {p : Str}, p ∈ ps → p.length ≤ (Str.join y ps).length
  | [], _, h => nomatch h
  | [q], p, h => by rw [List.mem_singleton.mp h, join_one]; exact Nat.le_refl _
  | q :: r :: t, p, h => by
    rw [join_two, app_len, app_len]
    rcases List.mem_cons.mp h with rfl | h
    · lia
    · have := part_len (y := y) h; lia
theorem parts_len {y : Str} (hy : 1 ≤ y.length) : ∀ {ps : List Str}, ps.length ≤ (Str.join y ps).length + 1
  | [] => Nat.zero_le _
  | [q] => by rw [List.length_singleton]; lia
  | q :: r :: t => by
    rw [join_two, app_len, app_len, List.length_cons]
    have := parts_len hy (ps := r :: t); lia
theorem slice_len {x : Str} {l u : Option Int} : (Txt.slice x l u).length ≤ x.length := by
  rw [str_len, str_len, sgn_slice]
  unfold cutN
  rw [List.length_take, List.length_drop]
  lia
theorem cut_one {l : List Nat} : cutN l none (some 1) = l.take 1 := by
  unfold cutN
  have e : HT.sIx l.length l.length (some ((1 : Nat) : Int)) = min 1 l.length := HT.sIx_nat ..
  have e0 : HT.sIx l.length 0 none = 0 := rfl
  rw [show (some (1 : Int)) = some ((1 : Nat) : Int) from rfl, e, e0, List.drop_zero, Nat.sub_zero]
  cases l with
  | nil => rfl
  | cons a r => rw [Nat.min_eq_left (by simp)]
theorem cut_rest {l : List Nat} : cutN l (some 1) none = l.drop 1 := by
  unfold cutN
  have e : HT.sIx l.length 0 (some ((1 : Nat) : Int)) = min 1 l.length := HT.sIx_nat ..
  have e0 : HT.sIx l.length l.length none = l.length := rfl
  rw [show (some (1 : Int)) = some ((1 : Nat) : Int) from rfl, e, e0]
  cases l with
  | nil => rfl
  | cons a r => rw [Nat.min_eq_left (by simp)]; exact List.take_of_length_le (by simp)
theorem head_is {x : Str} : decide (V.str (Txt.slice x none (some 1)) = V.str "/") = decide ((sgn x).head? = some 47) := by
  have e : sgn (Txt.slice x none (some 1)) = (sgn x).take 1 := by rw [sgn_slice, cut_one]
  have e2 : sgn "/" = [47] := by decide +kernel
  by_cases h : (sgn x).head? = some 47
  · rw [decide_eq_true h, decide_eq_true]
    congr 1
    refine sgn_inj ?_
    rw [e, e2]
    cases hs : sgn x with
    | nil => rw [hs] at h; cases h
    | cons a r => rw [hs] at h; cases h; rfl
  · rw [decide_eq_false h, decide_eq_false]
    intro z
    have z := congrArg sgn (V.str.inj z)
    rw [e, e2] at z
    cases hs : sgn x with
    | nil => rw [hs] at z; cases z
    | cons a r => rw [hs] at z h; simp at z; exact h (by rw [z]; rfl)
theorem str_dec {a b : Str} : decide (V.str a = V.str b) = decide (a = b) := by
  by_cases h : a = b
  · subst h; simp
  · rw [decide_eq_false h, decide_eq_false fun z => h (V.str.inj z)]
theorem compX_steps {K : PySem.W.Frag} {c : Nat → Addr} {a : Addr} {xs : List Str} {σ : St} {H : Hp} {Q : VK} {E : XK} (hl : H a = some (.lst (xs.map V.str))) (hn : xs.length < sizeLine) (hs : ∀ s ∈ xs, s.length ≤ 1000)
    (q : ∀ vs, allS xs = some vs → ∀ D H', Same H H' → H' D = some (.lst vs) → Q (.ref D) H') (e : Bad c H (allS xs) E) :
    CompRdX (Itl K a) (fun σ H Q E => tCons (tVar 0) tNil σ H fun vs H1 => spStep c vs H1 Q E) [] σ H Q E := by
  intro D hD
  refine ⟨fun i m H2 => m = xs.length - i ∧ i ≤ xs.length ∧ Same H H2 ∧ ∃ ys, H2 D = some (.lst ys) ∧ ys.length = i ∧ allS xs = (allS (xs.drop i)).map (ys ++ ·), ⟨_, rfl, Nat.zero_le _, Same.new hD, [], upd_same, rfl, by rw [List.drop_zero]; cases allS xs <;> rfl⟩, ?_⟩
  rintro i m H2 ⟨rfl, hi, s2, ys, d2, ly, ea⟩
  have hl2 := s2 _ _ hl
  by_cases hlt : i < xs.length
  · refine .inr ⟨⟨_, _, SqL.of hl2, by rw [List.getElem?_map, List.getElem?_eq_getElem hlt]; rfl⟩, fun v H3 yl => ?_⟩
    obtain ⟨rfl, y⟩ := yl
    have ev := y _ (SqL.of hl2)
    rw [List.getElem?_map, List.getElem?_eq_getElem hlt] at ev
    obtain rfl : V.str xs[i] = v := by simpa using ev
    rw [List.drop_eq_getElem_cons hlt] at ea
    refine ⟨_, rfl, xs[i], rfl, hs _ (List.getElem_mem hlt), fun v ev H4 s4 => ?_, fun en d H4 s4 hf => e ?_ d H4 (s2.trans s4) hf⟩
    · refine ⟨ys, s4 _ _ d2, by lia, xs.length - (i + 1), by lia, rfl, hlt, (s2.trans s4).put hD, ys ++ [v], upd_same, by simp [ly], ?_⟩
      rw [ea]
      show ((stepS xs[i]).bind fun v => (allS (xs.drop (i + 1))).map (v :: ·)).map (ys ++ ·) = _
      rw [ev]
      cases allS (xs.drop (i + 1)) with
      | none => rfl
      | some vs => simp
    · rw [ea]
      show ((stepS xs[i]).bind fun v => (allS (xs.drop (i + 1))).map (v :: ·)).map (ys ++ ·) = _
      rw [en]
      rfl
  · have ei : i = xs.length := by lia
    subst ei
    rw [List.drop_length] at ea
    exact .inl ⟨⟨_, SqL.of hl2, by rw [List.length_map]; exact Nat.le_refl _⟩, q ys (by rw [ea]; simp [allS]) D H2 s2 d2⟩
theorem part_s (x : Str) : sgn (Txt.partition x " ").1 = hd32 (sgn x) ∧ sgn (Txt.partition x " ").2.2 = tl32 (sgn x) := part_sgn x
theorem part1_len {x : Str} : (Txt.partition x " ").1.length ≤ x.length := by
  rw [str_len, str_len, (part_s x).1]
  exact (List.takeWhile_prefix _).length_le
theorem part2_len {x : Str} : (Txt.partition x " ").2.2.length ≤ x.length := by
  rw [str_len, str_len, (part_s x).2]
  unfold tl32
  rw [List.length_drop]
  exact Nat.le_trans (Nat.sub_le _ _) dw_len
end L2

set_option Elab.async false
set_option linter.all false
set_option maxRecDepth 100000
set_option maxHeartbeats 4000000
namespace L2
open PySem PySem.Spec PyProof.Rows
def ItD (n : Nat) : It := ⟨fun i _ => i < n, fun i H x H' => H' = H ∧ x = .int (((n : Nat) : Int) - 1 - ((i : Nat) : Int)), fun i _ => n ≤ i⟩
theorem turn_down {P : Program} {w : World} {K : PySem.W.Frag} {tg : Expr} (it : Addr) (n : Nat) : Turn P w K tg (ItD n) [it] it (fun i h => IsRangeIter h it ((((n : Nat) : Int) - 1) + (i : Nat) * (-1)) ((n : Int) - (i : Nat)) (-1)) where
  mem := by simp
  obj := fun i h st b hb => by
    have e : b = it := by simpa using hb
    subst e
    exact ⟨_, st, fun v z => by
      have z' : Data.fields _ = Data.cell v := z
      cases z'⟩
  keep := fun i h h' st k => k it (by simp) _ st
  item := by
    intro X hP hw hK hc i pins s σ H E I hf st hg
    subst hP hw hK
    obtain ⟨f0, f1, f2, f3, f4, f5⟩ := hf it (by simp)
    have W := Walks.range (prog := X.prog) (w := X.w) (I.ok.hd hc) it (((n : Nat) : Int) - 1) (-1) n
    refine W.item i s _ _ hg st fun v h' tk hv st' kk => ?_
    obtain ⟨t, rfl⟩ := hv
    have I1 : Inv X pins σ H { s with heap := h', toks := tk } := I.turned (fun b o hb e => kk b o (by simpa using hb) e) f0 f1 f3 f4 f5
    refine ⟨_, rfl, go_of (s := { s with heap := h', toks := tk }) (n := "range_iterator") st' rfl rfl (by decide) ⟨.int (((n : Nat) : Int) - 1 - ((i : Nat) : Int)), H, I1, ⟨t, ?_⟩, ⟨rfl, rfl⟩, st', fun b hb => (hf b hb).1⟩⟩
    congr 1
    lia
  done := by
    intro X hP hw hK hc i pins s σ H E I hf st hg
    subst hP hw hK
    obtain ⟨f0, f1, f2, f3, f4, f5⟩ := hf it (by simp)
    exact wpAny_pyNext_range_end (I.ok.hd hc) st (by have : n ≤ i := hg; lia) fun h' eb => ⟨rfl, I.turned (t' := s.toks) (fun b o hb e => eb b o hb e) f0 f1 f3 f4 f5⟩
  self := fun _ _ _ _ _ st h => wpAny_pyIter_rangeiter st h
section
variable {X : Cx} {tg : Expr}
theorem down_it {R : It → Hp → Prop} {E : Value → Shared → Prop} {t u v : Tok} {tk : Nat} (I : Inv X pins σ H s) (hn : n ≤ 20000) 
    (q : R (ItD n) H) : wpAny (model X.prog X.w) X.A (pyIter (.ref s.heap.objs.size)) (PIE X pins σ tg R) E { s with heap := s.heap.push { cls := .type "range", data := .fields #[.int (((n : Nat) : Int) - 1) t, .int (-1) u, .int (-1) v] }, toks := tk } := by
  have sz : Builtin.Range.rangeSize (((n : Nat) : Int) - 1) (-1) (-1) = (n : Int) := by
    unfold Builtin.Range.rangeSize
    rw [if_neg (by decide)]
    split
    · have : (((n : Nat) : Int) - 1 - (-1) - 1) / (- (-1)) + 1 = n := by
        rw [show (- (-1 : Int)) = 1 from rfl, Int.ediv_one]; lia
      exact this
    · lia
  have sm : Builtin.Range.small (((n : Nat) : Int) - 1) (-1) (-1) = true := by
    unfold Builtin.Range.small
    rw [sz]
    simp only [Builtin.Range.rangeFitsLong, Bool.and_eq_true, Bool.or_eq_true, decide_eq_true_eq, beq_iff_eq, show ¬ ((-1 : Int) > 0) by decide, if_false]
    lia
  refine wpAny_pyIter_range (IsRange.new ..) sm ?_
  rw [sz]
  have I1 : Inv X pins σ H { s with heap := s.heap.push { cls := .type "range", data := .fields #[.int (((n : Nat) : Int) - 1) t, .int (-1) u, .int (-1) v] }, toks := tk } := I.kept fun b o e => Heap.get?_push_of_some _ e
  refine ⟨_, [(s.heap.push { cls := .type "range", data := .fields #[.int (((n : Nat) : Int) - 1) t, .int (-1) u, .int (-1) v] }).objs.size], _, _, H, rfl,
    I1.kept (t' := tk) fun b o e => Heap.get?_push_of_some _ e, turn_down _ n, ?_, fun b hb => ?_, q⟩
  · show IsRangeIter _ _ ((((n : Nat) : Int) - 1) + ((0 : Nat) : Int) * (-1)) ((n : Int) - ((0 : Nat) : Int)) (-1)
    rw [show (((n : Nat) : Int) - 1) + ((0 : Nat) : Int) * (-1) = ((n : Nat) : Int) - 1 by simp, show (n : Int) - ((0 : Nat) : Int) = n by simp]
    exact Heap.get?_push_size _ rfl
  · have e : b = (s.heap.push { cls := .type "range", data := .fields #[.int (((n : Nat) : Int) - 1) t, .int (-1) u, .int (-1) v] }).objs.size := by simpa using hb
    subst e
    exact I1.fpOk (Nat.le_refl _) (I1.hok.fresh (Nat.le_refl _))
def iDown (ta : TA) : TI := fun σ H R => ta σ H fun vs H1 => ∃ n : Nat, vs = [.int (((n : Nat) : Int) - 1), .int (-1), .int (-1)] ∧ n ≤ 20000 ∧ R (ItD n) H1
theorem pi_range3 {p pos : Pos} (hg : Gl X "range") (hm : X.mg "range" = none) (ha : PA X [a, b, c] ta) (hs : starEach [a, b, c] X.env = [(false, eval a X.env), (false, eval b X.env), (false, eval c X.env)] := by rfl) (hs2 : starEach [b, c] X.env = [(false, eval b X.env), (false, eval c X.env)] := by rfl) :
    PI X tg (.Call (.Name "range" p) [a, b, c] [] pos) (iDown ta) := by
  intro pins s σ H R I h
  refine Call_ (ld_blt I hg hm boot_range (PyProof.Rows.callWith_type1 (thn (ha pos pins s σ H _ I h) fun us s1 zq => zq.elim fun vs H1 I1 r1 q1 => ?_) (by rw [hs, hs2]) (by rw [hs2]; rfl)))
  obtain ⟨n, e, hn, q⟩ := q1
  subst e
  cases r1 with
  | cons r rr =>
    cases rr with
    | cons r' rr =>
      cases rr with
      | cons r'' rr =>
        cases rr
        obtain ⟨t, rfl⟩ := r
        obtain ⟨t', rfl⟩ := r'
        obtain ⟨t'', rfl⟩ := r''
        exact call_range_3 (by decide) (down_it I1 hn q) (.inl (PyProof.noPylong_small (by lia)))
end
end L2
namespace L2
open PySem PySem.Spec PyProof.Rows
theorem for_down {g : TG} {tb : TS} {D : Ends} (Pv : Nat → St → Hp → Prop) (h0 : Pv n σ H) 
    (hs : ∀ i σ H e, Go D (Pv i) e → i < n → Pv (i + 1) σ H → g (.int (i : Int)) σ H (tb e)) (hd : ∀ σ H, Pv 0 σ H → D.nx σ H) :
    ForW (ItD n) g tb D σ H := by
  refine ⟨fun i m σ H => m = n - i ∧ i ≤ n ∧ Pv m σ H, ⟨n, by simp, Nat.zero_le _, h0⟩, ?_⟩
  rintro i m σ H ⟨rfl, hi, p⟩
  by_cases hlt : i < n
  · refine .inr ⟨hlt, Pv (n - (i + 1)), fun σ' H' p' => ⟨n - (i + 1), by lia, rfl, hlt, p'⟩, fun x H' y => ?_⟩
    obtain ⟨e, y⟩ := y
    subst e y
    have e : ((n : Nat) : Int) - 1 - ((i : Nat) : Int) = (((n - (i + 1) : Nat)) : Int) := by lia
    rw [e]
    refine hs (n - (i + 1)) σ _ _ ⟨id, id⟩ (by lia) ?_
    rw [show n - (i + 1) + 1 = n - i by lia]
    exact p
  · have e : i = n := by lia
    subst e
    rw [Nat.sub_self] at p
    exact .inl ⟨Nat.le_refl _, hd σ H p⟩
end L2

set_option Elab.async false
set_option linter.all false
set_option maxRecDepth 1000
set_option maxHeartbeats 4000000
namespace L2
open PySem PySem.Spec PyProof.Rows
def nest (m : Nat) : List Nat := List.replicate m 91 ++ 49 :: List.replicate m 93
theorem nest_succ {m : Nat} : nest (m + 1) = 91 :: (nest m ++ [93]) := by
  unfold nest
  rw [List.replicate_succ, List.replicate_succ', List.cons_append, List.append_assoc]
  rfl
inductive CL (H : Hp) : List V → Prop
  | one : CL H [.int 1]
  | cons {o : Addr} {w : V} {es : List V} (h : H o = some (.lst [w])) (t : CL H (w :: es)) : CL H (.ref o :: w :: es)
theorem Ch.list {H : Hp} : ∀ {n : Nat} {v : V}, Ch H n v → ∃ es, CL H (v :: es) ∧ es.length = n
  | 0, v, h => by
    obtain rfl : v = .int 1 := h
    exact ⟨[], .one, rfl⟩
  | n + 1, v, ⟨o, w, e, g, h⟩ => by
    obtain ⟨es, c, l⟩ := Ch.list h
    subst e
    exact ⟨w :: es, .cons g c, by rw [List.length_cons, l]⟩
theorem CL.get {H : Hp} {full : List V} (h : CL H full) : ∀ {i : Nat} {x : V}, full[i]? = some x → (i + 1 = full.length ∧ x = .int 1) ∨ ∃ o w, x = .ref o ∧ H o = some (.lst [w]) ∧ full[i + 1]? = some w := by
  induction h with
  | one =>
    intro i x e
    cases i with
    | zero => cases e; exact .inl ⟨rfl, rfl⟩
    | succ i => cases e
  | @cons o w es h t ih =>
    intro i x e
    cases i with
    | zero => cases e; exact .inr ⟨o, w, rfl, h, rfl⟩
    | succ i =>
      rcases ih (i := i) (x := x) e with ⟨l, z⟩ | ⟨o', w', z1, z2, z3⟩
      · exact .inl ⟨by rw [List.length_cons, ← l], z⟩
      · exact .inr ⟨o', w', z1, z2, z3⟩
inductive spStCI (vs : List V) (H : Hp) (Q : VK) : Prop
  | row (o : Addr) (w : V) (x0 : vs = [.ref o]) (h : H o = some (.lst [w])) (q : ∀ p H', Same H H' → H' p = some (.lst [.int 0]) → Q (.ref p) H') : spStCI vs H Q
  | num (x0 : vs = [.int 1]) (q : ∀ p H', Same H H' → H' p = some (.lst []) → Q (.ref p) H') : spStCI vs H Q
def spStC : Sp := fun vs H Q _ => spStCI vs H Q
inductive spInCI (vs : List V) (H : Hp) (Q : VK) : Prop
  | row (o : Addr) (w : V) (x0 : vs = [.ref o]) (h : H o = some (.lst [w])) (q : ∀ p H', Same H H' → H' p = some (.lst [w]) → Q (.ref p) H') : spInCI vs H Q
  | num (x0 : vs = [.int 1]) (q : ∀ p H', Same H H' → H' p = some (.lst []) → Q (.ref p) H') : spInCI vs H Q
def spInC : Sp := fun vs H Q _ => spInCI vs H Q
inductive spShPI (vs : List V) (H : Hp) (Q : VK) : Prop
  | row (o l : Addr) (w : V) (s : Str) (x0 : vs = [.ref o, .ref l]) (h : H o = some (.lst [w])) (hl : H l = some (.lst [.str s])) (ls : s.length ≤ 300) (q : ∀ t, sgn t = 91 :: (sgn s ++ [93]) → Q (.str t) H) : spShPI vs H Q
  | num (l : Addr) (x0 : vs = [.int 1, .ref l]) (q : ∀ t, sgn t = [49] → Q (.str t) H) : spShPI vs H Q
def spShP : Sp := fun vs H Q _ => spShPI vs H Q
inductive spGaCI (fI : Addr) (vs : List V) (H : Hp) (Q : VK) : Prop
  | mk (v : V) (es : List V) (x0 : vs = [v, .ref fI]) (c : CL H (v :: es)) (l : es.length ≤ 200) (q : ∀ p H', Same H H' → H p = none → H' p = some (.lst (v :: es)) → Q (.ref p) H')
def spGaC (fI : Addr) : Sp := fun vs H Q _ => spGaCI fI vs H Q
inductive spFoCI (fI fJ : Addr) (vs : List V) (H : Hp) (Q : VK) : Prop
  | mk (v : V) (es : List V) (x0 : vs = [v, .ref fI, .ref fJ]) (c : CL H (v :: es)) (l : es.length ≤ 140) (q : ∀ s H', Same H H' → sgn s = nest es.length → Q (.str s) H')
def spFoC (fI fJ : Addr) : Sp := fun vs H Q _ => spFoCI fI fJ vs H Q
inductive spShowI (vs : List V) (H : Hp) (Q : VK) : Prop
  | mk (v : V) (n : Nat) (x0 : vs = [v]) (c : Ch H n v) (l : n ≤ 140) (q : ∀ s H', Same H H' → sgn s = nest n → Q (.str s) H')
def spShow : Sp := fun vs H Q _ => spShowI vs H Q
theorem cutV_m (l : List V) (i j : Nat) (h : i ≤ j) (hj : j ≤ l.length) : cutV l (some (i : Int)) (some (j : Int)) = (l.drop i).take (j - i) := by
  unfold cutV
  rw [HT.sIx_nat, HT.sIx_nat, Nat.min_eq_left hj, Nat.min_eq_left (Nat.le_trans h hj)]
theorem rep_non {n : Nat} : (List.replicate ((n : Nat) : Int).toNat [V.non]).flatten = List.replicate n .non := by
  rw [Int.toNat_natCast]
  induction n with
  | zero => rfl
  | succ n ih => rw [List.replicate_succ, List.flatten_cons, ih]; rfl
theorem nest_len {m : Nat} : (nest m).length = 2 * m + 1 := by
  unfold nest
  rw [List.length_append, List.length_cons, List.length_replicate, List.length_replicate]
  lia
inductive ToldC (N i : Nat) (ts : List V) : Prop
  | mk (l : ts.length = N) (h : ∀ j, i ≤ j → j < N → ∃ s, ts[j]? = some (.str s) ∧ sgn s = nest (N - 1 - j))
end L2

set_option Elab.async false
set_option linter.all false
set_option maxRecDepth 100000
set_option maxHeartbeats 4000000
namespace L2
open PySem PySem.Spec PyProof.Rows
theorem read_mono : ∀ {n m : Nat} {cs : List Nat} {st : List Fr} {d : Option DT} {t : DT}, readP n cs st d = some t → n ≤ m → readP m cs st d = some t
  | 0, _, _, _, _, _, h, _ => by rw [readP] at h; cases h
  | n + 1, 0, _, _, _, _, _, l => nomatch l
  | n + 1, m + 1, cs, st, d, t, h, l => by
    have l' := Nat.le_of_succ_le_succ l
    cases d with
    | none =>
      rw [read_beg] at h ⊢
      cases hb : begunP cs st with
      | none => rw [hb] at h; cases h
      | some p => rw [hb] at h; exact read_mono (n := n) h l'
    | some d =>
      cases st with
      | nil =>
        cases cs with
        | nil => rw [read_end] at h ⊢; exact h
        | cons c cs => rw [read_more] at h; cases h
      | cons f st =>
        rw [read_gone] at h ⊢
        cases hb : goneP cs f st d with
        | none => rw [hb] at h; cases h
        | some p => rw [hb] at h; exact read_mono (n := n) h l'
theorem none_le {n m : Nat} {cs : List Nat} {st : List Fr} {d : Option DT} (h : readP m cs st d = none) (l : n ≤ m) : readP n cs st d = none := by
  cases e : readP n cs st d with
  | none => rfl
  | some t => rw [read_mono e l] at h; cases h
theorem R_no {cs : List Nat} {st : List Fr} (h : begunP cs st = none) : ∀ n, readP n cs st none = none
  | 0 => by rw [readP]
  | n + 1 => by rw [read_beg, h]; rfl
theorem R_beg {cs cs' : List Nat} {st st' : List Fr} {d' : Option DT} (h : begunP cs st = some (cs', st', d')) (k : ∀ n, readP n cs' st' d' = none) : ∀ n, readP n cs st none = none
  | 0 => by rw [readP]
  | n + 1 => by rw [read_beg, h]; exact k n
theorem R_gno {cs : List Nat} {f : Fr} {st : List Fr} {d : DT} (h : goneP cs f st d = none) : ∀ n, readP n cs (f :: st) (some d) = none
  | 0 => by rw [readP]
  | n + 1 => by rw [read_gone, h]; rfl
theorem R_gone {cs cs' : List Nat} {f : Fr} {st st' : List Fr} {d : DT} {d' : Option DT} (h : goneP cs f st d = some (cs', st', d')) (k : ∀ n, readP n cs' st' d' = none) : ∀ n, readP n cs (f :: st) (some d) = none
  | 0 => by rw [readP]
  | n + 1 => by rw [read_gone, h]; exact k n
theorem R_begL {cs cs' : List Nat} {st st' : List Fr} {d' : Option DT} {k : Nat} (h : begunP cs st = some (cs', st', d')) (i : ∀ n, n ≤ k → readP n cs' st' d' = none) : ∀ n, n ≤ k + 1 → readP n cs st none = none
  | 0, _ => by rw [readP]
  | n + 1, l => by rw [read_beg, h]; exact i n (Nat.le_of_succ_le_succ l)
theorem R_goneL {cs cs' : List Nat} {f : Fr} {st st' : List Fr} {d : DT} {d' : Option DT} {k : Nat} (h : goneP cs f st d = some (cs', st', d')) (i : ∀ n, n ≤ k → readP n cs' st' d' = none) : ∀ n, n ≤ k + 1 → readP n cs (f :: st) (some d) = none
  | 0, _ => by rw [readP]
  | n + 1, l => by rw [read_gone, h]; exact i n (Nat.le_of_succ_le_succ l)
theorem R_more {c : Nat} {cs : List Nat} {d : DT} : ∀ n, readP n (c :: cs) [] (some d) = none
  | 0 => by rw [readP]
  | n + 1 => read_more
theorem let_in {c : Nat} (h : isL c = true) : 97 ≤ c ∧ c ≤ 122 := by
  have hm : c ∈ LET := of_decide_eq_true h
  have : ∀ x ∈ LET, 97 ≤ x ∧ x ≤ 122 := by decide +kernel
  exact this c hm
theorem let_out {c : Nat} (h : c < 97 ∨ 122 < c) : isL c = false := by
  cases e : isL c with
  | false => rfl
  | true => have := let_in e; lia
theorem nm_all {l : List Nat} (h : nameS l = true) : l.all isL = true ∧ 1 ≤ l.length ∧ l.length ≤ 8 := by
  unfold nameS at h
  simp only [Bool.and_eq_true, decide_eq_true_eq] at h
  exact ⟨h.2, h.1.1, h.1.2⟩
theorem nm_head {l : List Nat} (h : nameS l = true) : ∃ a r, l = a :: r ∧ 97 ≤ a ∧ a ≤ 122 := by
  obtain ⟨h1, h2, _⟩ := nm_all h
  cases l with
  | nil => cases h2
  | cons a r =>
    rw [List.all_cons, Bool.and_eq_true] at h1
    exact ⟨a, r, rfl, let_in h1.1⟩
theorem nm_mem {l : List Nat} {c : Nat} (h : nameS l = true) (hc : c ∈ l) : 97 ≤ c ∧ c ≤ 122 := let_in (List.all_eq_true.mp (nm_all h).1 c hc)
theorem nm_B {l : List Nat} (h : nameS l = true) : nmB l = true := by
  obtain ⟨_, h2, h3⟩ := nm_all h
  unfold nmB
  rw [decide_eq_true h2, decide_eq_true h3]
  rfl
theorem ltL_nil {l : List Nat} (h : nameS l = true) : ltL [] l = true := by
  obtain ⟨a, r, rfl, _⟩ := nm_head h
  exact decide_eq_true (List.nil_lt_cons a r)
theorem nm_in {last nm r : List Nat} (h : nameS nm = true) (hl : ltL last nm = true) : nameIn last (nm ++ 58 :: r) = some (nm, r) := by
  obtain ⟨h1, h2⟩ := tw_all (p := isL) (c := 58) (r := r) (let_out (.inl (by decide))) (nm_all h).1
  unfold nameIn
  rw [h1, h2, nm_B h, hl]
  rfl
theorem nm_no {last nm r : List Nat} {c : Nat} (h : nameS nm = true) (hc : isL c = false) (h8 : c ≠ 58) : nameIn last (nm ++ c :: r) = none := by
  obtain ⟨h1, h2⟩ := tw_all (p := isL) (c := c) (r := r) hc (nm_all h).1
  unfold nameIn
  rw [h1, h2]
  split
  · split
    · rename_i z; cases z; exact absurd rfl h8
    · rfl
  · rfl
theorem nm_lt {last nm r : List Nat} {c : Nat} (h : nameS nm = true) (hc : isL c = false) (hl : ltL last nm = false) : nameIn last (nm ++ c :: r) = none := by
  obtain ⟨h1, _⟩ := tw_all (p := isL) (c := c) (r := r) hc (nm_all h).1
  unfold nameIn
  rw [h1, hl, Bool.and_false]
  rfl
theorem nm_emp {last r : List Nat} {c : Nat} (hc : isL c = false) : nameIn last (c :: r) = none := by
  unfold nameIn
  rw [List.takeWhile_cons, hc]
  rfl
theorem beg_bad {c : Nat} {cs : List Nat} {st : List Fr} (l : st.length ≤ 2) (h1 : c ≠ 91) (h2 : c ≠ 123) (h3 : c ≠ 39) (h4 : c ≠ 45) (h5 : isF c = false) : begunP (c :: cs) st = none := by
  rw [beg_num (Nat.lt_of_le_of_lt l (by decide)) (fun t z => h1 (List.cons.inj z).1) (fun t z => h2 (List.cons.inj z).1) (fun t z => h3 (List.cons.inj z).1), numIn_else (fun t z => h4 (List.cons.inj z).1), List.takeWhile_cons, h5]
  rfl
theorem fig_out {c : Nat} (h : c < 48 ∨ 57 < c) : isF c = false := by
  unfold isF
  rcases h with h | h
  · rw [decide_eq_false (by lia), Bool.false_and]
  · rw [decide_eq_false (show ¬ c ≤ 57 by lia), Bool.and_false]
theorem beg_open {nm r : List Nat} {st : List Fr} (l : st.length ≤ 2) (h : nameS nm = true) : begunP (123 :: (nm ++ 58 :: r)) st = some (r, ⟨true, nm, [], []⟩ :: st, none) := by
  rw [beg_tab (Nat.lt_of_le_of_lt l (by decide)), bh_tab, nm_in h (ltL_nil h)]
  · rfl
  · obtain ⟨a, r', rfl, ha, _⟩ := nm_head h
    intro t z
    have := (List.cons.inj z).1
    lia
theorem beg_one {c : Nat} {r : List Nat} {st : List Fr} (l2 : st.length < 100) (hc : isF c = false) : begunP (49 :: c :: r) st = some (c :: r, st, some (.num 1)) := by
  rw [beg_num l2 (fun t z => absurd (List.cons.inj z).1 (by decide)) (fun t z => absurd (List.cons.inj z).1 (by decide)) (fun t z => absurd (List.cons.inj z).1 (by decide)), numIn_else (fun t z => absurd (List.cons.inj z).1 (by decide))]
  have : (49 :: c :: r).takeWhile isF = [49] := by rw [List.takeWhile_cons, show isF 49 = true from rfl, List.takeWhile_cons, hc]; rfl
  have d : (49 :: c :: r).dropWhile isF = c :: r := by rw [List.dropWhile_cons, show isF 49 = true from rfl, List.dropWhile_cons, hc]; rfl
  rw [this, d]
  rfl
structure Odd (l : List Nat) : Prop where
  raw : pd l = none
  row : pd (91 :: (l ++ [93])) = none
  tab : ∀ nm, readP 200 (l ++ [93, 125]) [⟨false, [], [], [.num 5]⟩, ⟨true, nm, [], []⟩] none = none
  len : l.length ≤ 70
  semi : 59 ∉ l
theorem isNone_eq {α : Type} {o : Option α} (h : o.isNone = true) : o = none := by cases o with | none => rfl | some _ => cases h
theorem cds_app {a b : String} : cds (a ++ b) = cds a ++ cds b := by
  unfold cds
  rw [String.toList_append, List.map_append]
theorem odd_len : odds.all (fun s => decide ((cds s).length ≤ 70) && !((cds s).contains 59)) = true := by decide +kernel
theorem odd_con {s : String} (h : s ∈ odds) : Odd (cds s) := by
  have h4 := List.all_eq_true.mp odd_len s h
  rw [Bool.and_eq_true, decide_eq_true_eq] at h4
  refine ⟨isNone_eq (List.all_eq_true.mp odd_raw s h), ?_, fun nm => ?_, h4.1, fun z => ?_⟩
  · have := isNone_eq (List.all_eq_true.mp odd_row s h)
    rw [cds_app, cds_app] at this
    exact this
  · have := List.all_eq_true.mp (odd_tab nm) s h
    unfold inTab at this
    have := isNone_eq this
    rw [cds_app] at this
    exact this
  · have h5 := h4.2
    rw [List.contains_iff_mem.mpr z] at h5
    cases h5
theorem odd_of {l : List Nat} (h : ∀ st : List Fr, st.length ≤ 2 → ∀ rest n, readP n (l ++ rest) st none = none) (hd : ∀ t, l ++ [93] ≠ 93 :: t) (len : l.length ≤ 70) (semi : 59 ∉ l) : Odd l := by
  refine ⟨?_, ?_, fun nm => h _ (Nat.le_refl _) _ _, len, semi⟩
  · have := h [] (Nat.zero_le _) [] (2 * l.length + 2)
    rw [List.append_nil] at this
    exact this
  · refine R_beg (cs' := l ++ [93]) (st' := [⟨false, [], [], []⟩]) (d' := none) ?_ (h _ (by decide) [93]) _
    rw [beg_row (by decide), bh_row hd]
theorem beg_num0 {r : List Nat} {st : List Fr} (l : st.length < 100) : begunP (32 :: r) st = none := by
  rw [beg_num l (fun t z => absurd (List.cons.inj z).1 (by decide)) (fun t z => absurd (List.cons.inj z).1 (by decide)) (fun t z => absurd (List.cons.inj z).1 (by decide)), numIn_else (fun t z => absurd (List.cons.inj z).1 (by decide)), List.takeWhile_cons, show isF 32 = false from rfl]
  rfl
theorem beg_five {r : List Nat} {f g : Fr} : begunP (53 :: 32 :: r) [f, g] = some (32 :: r, [f, g], some (.num 5)) := by
  rw [beg_num (st := [f, g]) (show 2 < 100 by decide) (fun t z => absurd (List.cons.inj z).1 (by decide)) (fun t z => absurd (List.cons.inj z).1 (by decide)) (fun t z => absurd (List.cons.inj z).1 (by decide)), numIn_else (fun t z => absurd (List.cons.inj z).1 (by decide))]
  have : (53 :: 32 :: r).takeWhile isF = [53] := by rw [List.takeWhile_cons, show isF 53 = true from rfl, List.takeWhile_cons, show isF 32 = false from rfl]; rfl
  have d : (53 :: 32 :: r).dropWhile isF = 32 :: r := by rw [List.dropWhile_cons, show isF 53 = true from rfl, List.dropWhile_cons, show isF 32 = false from rfl]; rfl
  rw [this, d]
  rfl
theorem no_semi {l : List Nat} (h : nameS l = true) : 59 ∉ l := fun z => by have := nm_mem h z; lia
theorem odd_n1 {nm : List Nat} (h : nameS nm = true) : Odd (123 :: (nm ++ [125])) := by
  obtain ⟨h1, h2, h3⟩ := nm_all h
  refine odd_of (fun st l rest => R_no ?_) (fun t z => absurd (List.cons.inj z).1 (by decide)) (by simp; lia) (by simp [no_semi h])
  show begunP (123 :: (nm ++ [125] ++ rest)) st = none
  rw [List.append_assoc]
  show begunP (123 :: (nm ++ 125 :: rest)) st = none
  rw [beg_tab (Nat.lt_of_le_of_lt l (by decide)), bh_tab, nm_no h (let_out (.inr (by decide))) (by decide)]
  · rfl
  · obtain ⟨a, r', rfl, ha, _⟩ := nm_head h
    intro t z
    have := (List.cons.inj z).1
    lia
theorem odd_n2 {nm : List Nat} (h : nameS nm = true) : Odd (123 :: (nm ++ [58, 32, 49, 125])) := by
  obtain ⟨h1, h2, h3⟩ := nm_all h
  refine odd_of (fun st l rest => ?_) (fun t z => absurd (List.cons.inj z).1 (by decide)) (by simp; lia) (by simp [no_semi h])
  show ∀ n, readP n (123 :: (nm ++ [58, 32, 49, 125] ++ rest)) st none = none
  rw [List.append_assoc]
  exact R_beg (beg_open l h) (R_no (beg_num0 (show st.length + 1 < 100 by lia)))
theorem odd_n3 {nm : List Nat} (h : nameS nm = true) : Odd nm := by
  obtain ⟨h1, h2, h3⟩ := nm_all h
  obtain ⟨a, r, rfl, ha, hb⟩ := nm_head h
  exact odd_of (fun st l rest => R_no (beg_bad l (by lia) (by lia) (by lia) (by lia) (fig_out (.inr (by lia))))) (fun t z => by have := (List.cons.inj z).1; lia) (Nat.le_trans h3 (by decide)) (no_semi h)
theorem odd_n4 {nm nn tl : List Nat} (h : nameS nm = true) (g : nameS nn = true) (lt : ltL nm nn = false) (ht : tl = [58, 49, 125] ∨ tl = [58, 50, 125]) : Odd (123 :: (nm ++ 58 :: 49 :: 32 :: (nn ++ tl))) := by
  obtain ⟨h1, h2, h3⟩ := nm_all h
  obtain ⟨g1, g2, g3⟩ := nm_all g
  have lt3 : tl.length = 3 := by rcases ht with rfl | rfl <;> rfl
  have s3 : 59 ∉ tl := by rcases ht with rfl | rfl <;> decide
  obtain ⟨t', et⟩ : ∃ t', tl = 58 :: t' := by rcases ht with rfl | rfl <;> exact ⟨_, rfl⟩
  refine odd_of (fun st l rest => ?_) (fun t z => absurd (List.cons.inj z).1 (by decide)) (by simp; lia) (by simp [no_semi h, no_semi g, s3])
  show ∀ n, readP n (123 :: (nm ++ 58 :: 49 :: 32 :: (nn ++ tl) ++ rest)) st none = none
  rw [List.append_assoc]
  refine R_beg (beg_open l h) (R_beg (beg_one (Nat.lt_of_le_of_lt (Nat.succ_le_succ l) (by decide)) (fig_out (.inl (by decide)))) (R_gno ?_))
  rw [gone_tab rfl]
  show Option.map _ (nameIn nm (nn ++ tl ++ rest)) = none
  rw [et, List.append_assoc]
  show Option.map _ (nameIn nm (nn ++ 58 :: (t' ++ rest))) = none
  rw [nm_lt g (let_out (.inl (by decide))) lt]
  rfl
theorem odd_n5 {nm : List Nat} (h : nameS nm = true) : Odd (123 :: (nm ++ [58, 49, 32, 32, 125])) := by
  obtain ⟨h1, h2, h3⟩ := nm_all h
  refine odd_of (fun st l rest => ?_) (fun t z => absurd (List.cons.inj z).1 (by decide)) (by simp; lia) (by simp [no_semi h])
  show ∀ n, readP n (123 :: (nm ++ [58, 49, 32, 32, 125] ++ rest)) st none = none
  rw [List.append_assoc]
  refine R_beg (beg_open l h) (R_beg (beg_one (Nat.lt_of_le_of_lt (Nat.succ_le_succ l) (by decide)) (fig_out (.inl (by decide)))) (R_gno ?_))
  rw [gone_tab rfl]
  show Option.map _ (nameIn nm (32 :: 125 :: rest)) = none
  rw [nm_emp (let_out (.inl (by decide)))]
  rfl
theorem ltL_self {l : List Nat} : ltL l l = false := decide_eq_false (List.lt_irrefl l)
structure OddT (l : List Nat) : Prop where
  raw : pd l = none
  len : l.length ≤ 120
  semi : 59 ∉ l ∨ ∃ l', l = l' ++ [59] ∧ 59 ∉ l'
theorem Odd.t {l : List Nat} (h : Odd l) : OddT l := ⟨h.raw, Nat.le_trans h.len (by decide), .inl h.semi⟩
theorem Odd.t2 {l : List Nat} (h : Odd l) : OddT (91 :: (l ++ [93])) := ⟨h.row, by have := h.len; simp; lia, .inl (by simp [h.semi])⟩
theorem Odd.t3 {l nm : List Nat} (h : Odd l) (g : nameS nm = true) : OddT (123 :: (nm ++ (58 :: 91 :: 53 :: 32 :: (l ++ [93, 125])))) := by
  obtain ⟨g1, g2, g3⟩ := nm_all g
  have hl := h.len
  refine ⟨?_, by simp; lia, .inl (by simp [no_semi g, h.semi])⟩
  have key : ∀ n, n ≤ 200 → readP n (l ++ [93, 125]) [⟨false, [], [], [.num 5]⟩, ⟨true, nm, [], []⟩] none = none := fun n ln => none_le (h.tab nm) ln
  have ln : 2 * (123 :: (nm ++ (58 :: 91 :: 53 :: 32 :: (l ++ [93, 125])))).length + 2 ≤ 204 := by simp; lia
  exact R_begL (beg_open (Nat.zero_le _) g) (R_begL ((beg_row (st := [⟨true, nm, [], []⟩]) (show 1 < 100 by decide)).trans (bh_row fun t z => absurd (List.cons.inj z).1 (by decide))) (R_begL beg_five (R_goneL (gone_row rfl) key))) _ ln
structure GoodT (g : List Nat) : Prop where
  sp : pd (g ++ [32]) = none
  fr : pd (32 :: g) = none
  se : pd (g ++ [59]) = none
  nl : pd (g ++ [10]) = none
  rep : pd (g ++ List.replicate 70 (g.getLastD 0)) = none
  len : g.length ≤ 14
  semi : 59 ∉ g
  ne : g ≠ []
def goods : List String := ["1", "[]", "{}", "''", "[1 'a']"]
def goodB (g : List Nat) : Bool := (pd (g ++ [32])).isNone && (pd (32 :: g)).isNone && (pd (g ++ [59])).isNone && (pd (g ++ [10])).isNone && (pd (g ++ List.replicate 70 (g.getLastD 0))).isNone && decide (g.length ≤ 14) && !(g.contains 59) && !g.isEmpty
theorem goods_all : goods.all (fun s => goodB (cds s)) = true := by decide +kernel
theorem good_con {s : String} (h : s ∈ goods) : GoodT (cds s) := by
  have := List.all_eq_true.mp goods_all s h
  unfold goodB at this
  simp only [Bool.and_eq_true, decide_eq_true_eq, Bool.not_eq_true'] at this
  obtain ⟨⟨⟨⟨⟨⟨⟨h1, h2⟩, h3⟩, h4⟩, h5⟩, h6⟩, h7⟩, h8⟩ := this
  exact ⟨isNone_eq h1, isNone_eq h2, isNone_eq h3, isNone_eq h4, isNone_eq h5, h6, fun z => (by rw [List.contains_iff_mem.mpr z] at h7; cases h7), fun z => (by rw [z] at h8; cases h8)⟩
theorem tab_more {nm r : List Nat} {c : Nat} (h : nameS nm = true) : pd (123 :: (nm ++ 58 :: 123 :: 125 :: 125 :: c :: r)) = none := by
  refine R_beg (beg_open (Nat.zero_le _) h) (R_beg (st' := [⟨true, nm, [], []⟩]) (d' := some (.tab [] [])) ((beg_tab (st := [⟨true, nm, [], []⟩]) (show 1 < 100 by decide)).trans rfl) (R_gone (gone_end rfl) R_more)) _
theorem good_nm {nm : List Nat} (h : nameS nm = true) : GoodT (123 :: (nm ++ [58, 123, 125, 125])) := by
  obtain ⟨h1, h2, h3⟩ := nm_all h
  have e : ∀ r : List Nat, 123 :: (nm ++ [58, 123, 125, 125]) ++ r = 123 :: (nm ++ 58 :: 123 :: 125 :: 125 :: r) := fun r => by simp
  refine ⟨?_, R_no (beg_num0 (by decide)) _, ?_, ?_, ?_, by simp; lia, by simp [no_semi h], by simp⟩
  · rw [e]; exact tab_more h
  · rw [e]; exact tab_more h
  · rw [e]; exact tab_more h
  · rw [e]; exact tab_more h
end L2

set_option Elab.async false
set_option linter.all false
set_option maxRecDepth 100000
set_option maxHeartbeats 4000000
namespace L2
open PySem PySem.Spec PyProof.Rows
def stepB (l : List Nat) : Bool := nameS l || figB l
theorem step_is {s : Str} : (stepS s).isSome = stepB (sgn s) := by
  unfold stepS stepB
  cases h : nameS (sgn s) with
  | true => rfl
  | false =>
    cases g : figB (sgn s) with
    | true => rfl
    | false => rfl
theorem all_is : ∀ {ps : List Str}, (allS ps).isSome = (ps.map sgn).all stepB
  | [] => rfl
  | s :: r => by
    rw [List.map_cons, List.all_cons, ← step_is, ← all_is (ps := r)]
    show ((stepS s).bind fun v => (allS r).map (v :: ·)).isSome = _
    cases stepS s with
    | none => rfl
    | some v => cases allS r <;> rfl
def pathN (cs : List Nat) : Bool := match cs with
  | 47 :: r => r.isEmpty || (spl1 47 r).all stepB
  | _ => false
theorem path_is {x : Str} : (pathV x).isSome = pathN (sgn x) := by
  unfold pathV
  have e1 : sgn "/" = [47] := by decide +kernel
  have e2 : sgn (Txt.slice x (some 1) none) = (sgn x).drop 1 := by rw [sgn_slice, cut_rest]
  have e3 : (Txt.split (Txt.slice x (some 1) none) "/").map sgn = spl1 47 ((sgn x).drop 1) := by rw [← e2]; exact split_one _ 47
  have e4 : x = "/" ↔ sgn x = [47] := ⟨fun z => by rw [z, e1], fun z => sgn_inj (z.trans e1.symm)⟩
  generalize hg : sgn x = l at e3 e4
  cases l with
  | nil => rfl
  | cons a r =>
    by_cases ha : a = 47
    · subst ha
      rw [if_pos (show (47 :: r).head? = some 47 from rfl)]
      show _ = (r.isEmpty || (spl1 47 r).all stepB)
      by_cases hx : x = "/"
      · rw [if_pos hx]
        have := e4.mp hx
        injection this with _ this
        rw [this]; rfl
      · rw [if_neg hx, all_is, e3]
        have : r.isEmpty = false := by
          cases r with
          | nil => exact absurd (e4.mpr rfl) hx
          | cons _ _ => rfl
        rw [this]; rfl
    · rw [if_neg (show ¬ (a :: r).head? = some 47 from fun z => ha (Option.some.inj z))]
      unfold pathN
      split
      · rename_i z; cases z; exact absurd rfl ha
      · rfl
def wl (w : List Nat) : Option Bool :=
  if w = cds "take" ∨ w = cds "has" ∨ w = cds "lacks" then some true
  else if w = cds "put" ∨ w = cds "change" ∨ w = cds "ask" ∨ w = cds "is" ∨ w = cds "move" ∨ w = cds "copy" then some false else none
theorem str_is {s : Str} {t : String} (h : sgn s = cds t) (c : sgn (Str.ofString t) = cds t := by decide +kernel) : s = Str.ofString t := sgn_inj (h.trans c.symm)
theorem lens_is {s : Str} : valV lens (.inr s) = (wl (sgn s)).map fun b => if b = true then V.int 2 else .int 3 := by
  unfold wl
  by_cases h1 : sgn s = cds "take"
  · rw [if_pos (.inl h1), str_is h1]; decide +kernel
  by_cases h2 : sgn s = cds "has"
  · rw [if_pos (.inr (.inl h2)), str_is h2]; decide +kernel
  by_cases h3 : sgn s = cds "lacks"
  · rw [if_pos (.inr (.inr h3)), str_is h3]; decide +kernel
  rw [if_neg (fun z => z.elim h1 fun z => z.elim h2 h3)]
  by_cases h4 : sgn s = cds "put"
  · rw [if_pos (.inl h4), str_is h4]; decide +kernel
  by_cases h5 : sgn s = cds "change"
  · rw [if_pos (.inr (.inl h5)), str_is h5]; decide +kernel
  by_cases h6 : sgn s = cds "ask"
  · rw [if_pos (.inr (.inr (.inl h6))), str_is h6]; decide +kernel
  by_cases h7 : sgn s = cds "is"
  · rw [if_pos (.inr (.inr (.inr (.inl h7)))), str_is h7]; decide +kernel
  by_cases h8 : sgn s = cds "move"
  · rw [if_pos (.inr (.inr (.inr (.inr (.inl h8))))), str_is h8]; decide +kernel
  by_cases h9 : sgn s = cds "copy"
  · rw [if_pos (.inr (.inr (.inr (.inr (.inr h9))))), str_is h9]; decide +kernel
  rw [if_neg (by simp [h4, h5, h6, h7, h8, h9])]
  have ne : ∀ {t : String} {v : V} {r : List (Key × V)}, sgn s ≠ cds t → sgn (Str.ofString t) = cds t → valV ((.inr (Str.ofString t), v) :: r) (.inr s : Key) = valV r (.inr s) := fun {t v r} h c => by
    have : ¬ ((.inr (Str.ofString t) : Key) = .inr s) := fun z => h (by rw [← Sum.inr.inj z]; exact c)
    simp [valV, List.find?_cons, this]
  unfold lens
  rw [ne h4 (by decide +kernel), ne h1 (by decide +kernel), ne h5 (by decide +kernel), ne h8 (by decide +kernel), ne h9 (by decide +kernel), ne h6 (by decide +kernel), ne h2 (by decide +kernel), ne h3 (by decide +kernel), ne h7 (by decide +kernel)]
  rfl
def thingN (w t : List Nat) : Bool :=
  if w = cds "put" ∨ w = cds "change" ∨ w = cds "ask" then (pd t).isSome else if w = cds "is" then decide (t = cds "row" ∨ t = cds "table") else pathN t
theorem inV_is {s : Str} : ∀ {ts : List String}, (∀ t ∈ ts, sgn (Str.ofString t) = cds t) → inV (.str s) ((ts.map Str.ofString).map V.str) = decide (sgn s ∈ ts.map cds)
  | [], _ => rfl
  | t :: r, hc => by
    have e : inV (.str s) (((t :: r).map Str.ofString).map V.str) = (eqV (.str (Str.ofString t)) (.str s) || inV (.str s) ((r.map Str.ofString).map V.str)) := rfl
    have c := hc t List.mem_cons_self
    rw [e, inV_is (ts := r) fun t ht => hc t (List.mem_cons_of_mem _ ht)]
    by_cases h : s = Str.ofString t
    · have e2 : eqV (.str (Str.ofString t)) (.str s) = true := by rw [h]; exact eqV_self rfl
      rw [e2, Bool.true_or, decide_eq_true (by rw [h, c]; exact List.mem_cons_self)]
    · have e2 : eqV (.str (Str.ofString t)) (.str s) = false := by simp [eqV, Ne.symm h]
      rw [e2, Bool.false_or]
      have : sgn s ≠ cds t := fun z => h (str_is z c)
      simp [this]
theorem thing_is {w t : Str} : (thingO w t).isSome = thingN (sgn w) (sgn t) := by
  have e1 : inV (.str w) (wordsWV.map V.str) = decide (sgn w ∈ ["put", "change", "ask"].map cds) := inV_is (ts := ["put", "change", "ask"]) (by decide +kernel)
  have e2 : inV (.str t) (wordsKI.map V.str) = decide (sgn t ∈ ["row", "table"].map cds) := inV_is (ts := ["row", "table"]) (by decide +kernel)
  unfold thingO thingN
  rw [e1, e2]
  have m1 : (sgn w ∈ ["put", "change", "ask"].map cds) ↔ (sgn w = cds "put" ∨ sgn w = cds "change" ∨ sgn w = cds "ask") := by simp
  have m2 : (sgn t ∈ ["row", "table"].map cds) ↔ (sgn t = cds "row" ∨ sgn t = cds "table") := by simp
  by_cases h1 : sgn w = cds "put" ∨ sgn w = cds "change" ∨ sgn w = cds "ask"
  · rw [if_pos (decide_eq_true (m1.mpr h1)), if_pos h1]
    unfold okO
    cases pd (sgn t) <;> rfl
  · rw [if_neg (fun z => h1 (m1.mp (of_decide_eq_true z))), if_neg h1]
    by_cases h2 : sgn w = cds "is"
    · rw [if_pos (str_is h2), if_pos h2]
      by_cases h3 : sgn t = cds "row" ∨ sgn t = cds "table"
      · rw [if_pos (decide_eq_true (m2.mpr h3)), decide_eq_true h3]; rfl
      · rw [if_neg (fun z => h3 (m2.mp (of_decide_eq_true z))), decide_eq_false h3]; rfl
    · rw [if_neg (fun z => h2 (by rw [z]; decide +kernel)), if_neg h2, ← path_is]
      unfold okO
      cases pathV t <;> rfl
def rowN (cs : List Nat) : Bool := match wl (hd32 cs) with
  | none => false
  | some true => pathN (tl32 cs)
  | some false => pathN (hd32 (tl32 cs)) && thingN (hd32 cs) (tl32 (tl32 cs))
theorem row_is {x : Str} : (rowO x).isSome = rowN (sgn x) := by
  obtain ⟨p1, p2⟩ := part_s x
  obtain ⟨p3, p4⟩ := part_s (Txt.partition x " ").2.2
  unfold rowO rowN
  rw [lens_is, p1]
  cases wl (hd32 (sgn x)) with
  | none => rfl
  | some b =>
    cases b with
    | true =>
      show (okO (pathV (Txt.partition x " ").2.2)).isSome = pathN (tl32 (sgn x))
      rw [← p2, ← path_is]
      unfold okO
      cases pathV (Txt.partition x " ").2.2 <;> rfl
    | false =>
      show ((pathV (Txt.partition (Txt.partition x " ").2.2 " ").1).bind fun _ => thingO (Txt.partition x " ").1 (Txt.partition (Txt.partition x " ").2.2 " ").2.2).isSome = (pathN (hd32 (tl32 (sgn x))) && thingN (hd32 (sgn x)) (tl32 (tl32 (sgn x))))
      rw [← p2, ← p3, ← p4, ← p1, ← path_is, ← thing_is]
      cases pathV (Txt.partition (Txt.partition x " ").2.2 " ").1 <;> rfl
end L2

set_option Elab.async false
set_option linter.all false
set_option maxRecDepth 100000
set_option maxHeartbeats 4000000
namespace L2
open PySem PySem.Spec PyProof.Rows
theorem no_c {l : List Nat} {c : Nat} (h : nameS l = true) (hc : c < 97) : c ∉ l := fun z => by have := nm_mem h z; lia
structure Pa1 (P : List Nat) : Prop where
  ex : ∃ nm, P = 47 :: nm ∧ nameS nm = true
theorem nm_not {l : List Nat} {c : Nat} (hc : c < 97) (hf : isF c = false) {m : List Nat} (h : nameS l = true) : stepB (l ++ c :: m) = false := by
  have h1 : nameS (l ++ c :: m) = false := by
    unfold nameS
    rw [List.all_append, List.all_cons, let_out (.inl hc), Bool.false_and, Bool.and_false, Bool.and_false]
  have h2 : figB (l ++ c :: m) = false := by
    obtain ⟨a, r, rfl, ha, _⟩ := nm_head h
    unfold figB
    rw [List.cons_append, List.all_cons, fig_out (c := a) (.inr (by lia)), Bool.false_and, Bool.and_false, Bool.false_and]
  unfold stepB
  rw [h1, h2]
  rfl
theorem pn_one {nm : List Nat} (h : nameS nm = true) : pathN (47 :: nm) = true := by
  show (nm.isEmpty || (spl1 47 nm).all stepB) = true
  rw [spl1_end (no_c h (by decide))]
  have : stepB nm = true := by unfold stepB; rw [h]; rfl
  simp [this]
theorem pn_bad {nm m : List Nat} {c : Nat} (h : nameS nm = true) (hc : c < 97) (hf : isF c = false) (h7 : c ≠ 47) (hm : 47 ∉ m) : pathN (47 :: (nm ++ c :: m)) = false := by
  show ((nm ++ c :: m).isEmpty || (spl1 47 (nm ++ c :: m)).all stepB) = false
  rw [spl1_end (by simp [no_c h (by decide : 47 < 97), hm, Ne.symm h7])]
  have e : (nm ++ c :: m).isEmpty = false := by cases nm <;> rfl
  rw [e, List.all_cons, nm_not hc hf h]
  rfl
structure OddP (l : List Nat) : Prop where
  no : pathN l = false
  len : l.length ≤ 70
  semi : 59 ∉ l
  chg : (pathN (hd32 (l ++ [32, 49])) && (pd (tl32 (l ++ [32, 49]))).isSome) = false
theorem hd_app {a r : List Nat} (h : 32 ∉ a) : hd32 (a ++ 32 :: r) = a ∧ tl32 (a ++ 32 :: r) = r := by
  have al : a.all n32 = true := by
    rw [List.all_eq_true]
    intro c hc
    unfold n32
    rw [bne_iff_ne]
    intro z
    exact h (z ▸ hc)
  obtain ⟨h1, h2⟩ := tw_all (p := n32) (c := 32) (r := r) rfl al
  unfold hd32 tl32
  rw [h1, h2]
  exact ⟨rfl, rfl⟩
theorem hd_end {a : List Nat} (h : 32 ∉ a) : hd32 a = a ∧ tl32 a = [] := by
  have al : a.all n32 = true := by
    rw [List.all_eq_true]
    intro c hc
    unfold n32
    rw [bne_iff_ne]
    intro z
    exact h (z ▸ hc)
  obtain ⟨h1, h2⟩ := tw_end (p := n32) al
  unfold hd32 tl32
  rw [h1, h2]
  exact ⟨rfl, rfl⟩
theorem oddp_of {l : List Nat} (no : pathN l = false) (len : l.length ≤ 70) (semi : 59 ∉ l) (b : 32 ∉ l) : OddP l := ⟨no, len, semi, by rw [(hd_app b).1, no, Bool.false_and]⟩
def oddps : List String := ["", "0", "//", "/A", "/-1", "/01", "/abcdefghi", "/1.0", "/3333333333333333333333333333333333333333333333333333333333333", "/+1", "/'a'"]
theorem oddps_all : oddps.all (fun s => !(pathN (cds s)) && decide ((cds s).length ≤ 70) && !((cds s).contains 59) && !((cds s).contains 32)) = true := by decide +kernel
theorem oddp_con {s : String} (h : s ∈ oddps) : OddP (cds s) := by
  have := List.all_eq_true.mp oddps_all s h
  simp only [Bool.and_eq_true, decide_eq_true_eq, Bool.not_eq_true'] at this
  obtain ⟨⟨⟨h1, h2⟩, h3⟩, h4⟩ := this
  exact oddp_of h1 h2 (fun z => by rw [List.contains_iff_mem.mpr z] at h3; cases h3) fun z => by rw [List.contains_iff_mem.mpr z] at h4; cases h4
section
variable {nm : List Nat}
theorem oddp_1 (h : nameS nm = true) : OddP nm := by
  obtain ⟨_, _, h3⟩ := nm_all h
  refine oddp_of ?_ (Nat.le_trans h3 (by decide)) (no_c h (by decide)) (no_c h (by decide))
  obtain ⟨a, r, rfl, ha, _⟩ := nm_head h
  unfold pathN
  split
  · rename_i z; cases z; exact absurd ha (by decide)
  · rfl
theorem oddp_2 (h : nameS nm = true) : OddP (47 :: (nm ++ [47])) := by
  obtain ⟨_, _, h3⟩ := nm_all h
  refine oddp_of ?_ (by simp; lia) (by simp [no_c h (by decide : 59 < 97)]) (by simp [no_c h (by decide : 32 < 97)])
  show ((nm ++ [47]).isEmpty || (spl1 47 (nm ++ [47])).all stepB) = false
  rw [spl1_go (no_c h (by decide))]
  have e : (nm ++ [47]).isEmpty = false := by cases nm <;> rfl
  rw [e, List.all_cons]
  have : (spl1 47 []).all stepB = false := by decide +kernel
  rw [this, Bool.and_false]
  rfl
theorem oddp_3 (h : nameS nm = true) : OddP (47 :: (nm ++ [32])) := by
  obtain ⟨_, _, h3⟩ := nm_all h
  refine ⟨pn_bad h (by decide) rfl (by decide) (by simp), by simp; lia, by simp [no_c h (by decide : 59 < 97)], ?_⟩
  have e : (47 :: (nm ++ [32])) ++ [32, 49] = (47 :: nm) ++ 32 :: [32, 49] := by simp
  have nb : 32 ∉ 47 :: nm := by simp [no_c h (by decide : 32 < 97)]
  rw [e, (hd_app nb).2]
  have : (pd [32, 49]).isSome = false := by decide +kernel
  rw [this, Bool.and_false]
theorem oddp_4 (h : nameS nm = true) : OddP (32 :: 47 :: nm) := by
  obtain ⟨_, _, h3⟩ := nm_all h
  exact ⟨rfl, by simp; lia, by simp [no_c h (by decide : 59 < 97)], rfl⟩
theorem oddp_5 (h : nameS nm = true) : OddP (47 :: (nm ++ 47 :: 47 :: nm)) := by
  obtain ⟨_, _, h3⟩ := nm_all h
  refine oddp_of ?_ (by simp; lia) (by simp [no_c h (by decide : 59 < 97)]) (by simp [no_c h (by decide : 32 < 97)])
  show ((nm ++ 47 :: 47 :: nm).isEmpty || (spl1 47 (nm ++ 47 :: 47 :: nm)).all stepB) = false
  rw [spl1_go (no_c h (by decide))]
  have e : (nm ++ 47 :: 47 :: nm).isEmpty = false := by cases nm <;> rfl
  have e2 : spl1 47 (47 :: nm) = [] :: spl1 47 nm := by simp [spl1]
  rw [e, e2, List.all_cons, List.all_cons, show stepB [] = false from rfl, Bool.false_and, Bool.and_false]
  rfl
theorem oddp_6 (h : nameS nm = true) : OddP (47 :: (nm ++ [10])) := by
  obtain ⟨_, _, h3⟩ := nm_all h
  exact oddp_of (pn_bad h (by decide) rfl (by decide) (by simp)) (by simp; lia) (by simp [no_c h (by decide : 59 < 97)]) (by simp [no_c h (by decide : 32 < 97)])
end
structure OddR (l : List Nat) : Prop where
  no : rowN l = false
  len : l.length ≤ 160
  fr : fr2 l = true
structure GoodR (l : List Nat) : Prop where
  ok : rowN l = true
  len : l.length ≤ 160
  fr : fr2 l = true
theorem row_two {w r : List Nat} (hw : 32 ∉ w) (e : wl w = some true) : rowN (w ++ 32 :: r) = pathN r := by
  unfold rowN
  rw [(hd_app hw).1, (hd_app hw).2, e]
theorem row_three {w r : List Nat} (hw : 32 ∉ w) (e : wl w = some false) : rowN (w ++ 32 :: r) = (pathN (hd32 r) && thingN w (tl32 r)) := by
  unfold rowN
  rw [(hd_app hw).1, (hd_app hw).2, e]
theorem row_no {w r : List Nat} (hw : 32 ∉ w) (e : wl w = none) : rowN (w ++ 32 :: r) = false := by
  unfold rowN
  rw [(hd_app hw).1, e]
section
variable {P O W : List Nat}
theorem Pa1.b (h : Pa1 P) {c : Nat} (hc : c < 47) : c ∉ P := by
  obtain ⟨nm, rfl, hn⟩ := h.ex
  simp [no_c hn (by lia : c < 97)]
  lia
theorem Pa1.s (h : Pa1 P) : 59 ∉ P := by
  obtain ⟨nm, rfl, hn⟩ := h.ex
  simp [no_c hn (by decide : 59 < 97)]
theorem Pa1.len (h : Pa1 P) : P.length ≤ 9 := by
  obtain ⟨nm, rfl, hn⟩ := h.ex
  obtain ⟨_, _, h3⟩ := nm_all hn
  simp; lia
theorem Pa1.ok (h : Pa1 P) : pathN P = true := by
  obtain ⟨nm, rfl, hn⟩ := h.ex
  exact pn_one hn
theorem Pa1.bad (h : Pa1 P) {c : Nat} {m : List Nat} (hc : c < 97) (hf : isF c = false) (h7 : c ≠ 47) : pathN (P ++ c :: m) = false := by
  obtain ⟨nm, rfl, hn⟩ := h.ex
  by_cases hm : 47 ∈ m
  · obtain ⟨a, b, rfl, ha⟩ : ∃ a b, m = a ++ 47 :: b ∧ 47 ∉ a := by
      clear hf h7 hc
      induction m with
      | nil => cases hm
      | cons x m ih =>
        by_cases hx : x = 47
        · exact ⟨[], m, by rw [hx]; rfl, by simp⟩
        · obtain ⟨a, b, e, ha⟩ := ih ((List.mem_cons.mp hm).resolve_left (Ne.symm hx))
          exact ⟨x :: a, b, by rw [e]; rfl, by simp [ha, Ne.symm hx]⟩
    show ((nm ++ c :: (a ++ 47 :: b)).isEmpty || (spl1 47 (nm ++ c :: (a ++ 47 :: b))).all stepB) = false
    have e1 : nm ++ c :: (a ++ 47 :: b) = (nm ++ c :: a) ++ 47 :: b := by simp
    rw [e1, spl1_go (by simp [no_c hn (by decide : 47 < 97), ha, Ne.symm h7]), List.all_cons, nm_not hc hf hn]
    cases nm <;> rfl
  · exact pn_bad hn hc hf h7 hm
theorem oddr_0 : OddR [] := ⟨by decide +kernel, by decide, rfl⟩
theorem oddr_1 : OddR (cds "take") := ⟨by decide +kernel, by decide +kernel, by decide +kernel⟩
theorem oddr_2 (h : Pa1 P) : OddR (cds "take" ++ 32 :: 32 :: P) := ⟨(row_two (by decide +kernel) (by decide +kernel)).trans rfl, by have := h.len; simp [cds]; lia, fr2_no (by simp [h.s]; decide +kernel)⟩
theorem oddr_3 (h : Pa1 P) : OddR (cds "put" ++ 32 :: P) := ⟨by
  rw [row_three (by decide +kernel) (by decide +kernel), (hd_end (h.b (by decide))).2]
  have : thingN (cds "put") [] = false := by decide +kernel
  rw [this, Bool.and_false], by have := h.len; simp [cds]; lia, fr2_no (by simp [h.s]; decide +kernel)⟩
theorem oddr_4 (h : Pa1 P) : OddR (cds "Put" ++ 32 :: (P ++ [32, 49])) := ⟨row_no (by decide +kernel) (by decide +kernel), by have := h.len; simp [cds]; lia, fr2_no (by simp [h.s]; decide +kernel)⟩
theorem oddr_5 (h : Pa1 P) : OddR (cds "do" ++ 32 :: P) := ⟨row_no (by decide +kernel) (by decide +kernel), by have := h.len; simp [cds]; lia, fr2_no (by simp [h.s]; decide +kernel)⟩
theorem oddr_6 (h : Pa1 P) : OddR (cds "has" ++ 32 :: (P ++ [32, 49])) := ⟨(row_two (by decide +kernel) (by decide +kernel)).trans (h.bad (by decide) rfl (by decide)), by have := h.len; simp [cds]; lia, fr2_no (by simp [h.s]; decide +kernel)⟩
theorem oddr_7 (h : Pa1 P) : OddR (cds "is" ++ 32 :: P) := ⟨by
  rw [row_three (by decide +kernel) (by decide +kernel), (hd_end (h.b (by decide))).2]
  have : thingN (cds "is") [] = false := by decide +kernel
  rw [this, Bool.and_false], by have := h.len; simp [cds]; lia, fr2_no (by simp [h.s]; decide +kernel)⟩
theorem thing_no {w t : List Nat} (h : Pa1 P) (hw : 32 ∉ w) (e : wl w = some false) (n : thingN w t = false) : rowN (w ++ 32 :: (P ++ 32 :: t)) = false := by
  rw [row_three hw e, (hd_app (h.b (by decide))).2, n, Bool.and_false]
theorem oddr_8 (h : Pa1 P) : OddR (cds "is" ++ 32 :: (P ++ 32 :: cds "text")) := ⟨thing_no h (by decide +kernel) (by decide +kernel) (by decide +kernel), by have := h.len; simp [cds]; lia, fr2_no (by simp [h.s]; decide +kernel)⟩
theorem oddr_9 (h : Pa1 P) : OddR (cds "move" ++ 32 :: P) := ⟨by
  rw [row_three (by decide +kernel) (by decide +kernel), (hd_end (h.b (by decide))).2]
  have : thingN (cds "move") [] = false := by decide +kernel
  rw [this, Bool.and_false], by have := h.len; simp [cds]; lia, fr2_no (by simp [h.s]; decide +kernel)⟩
theorem oddr_10 (h : Pa1 P) : OddR (cds "take" ++ 32 :: (P ++ [59])) := ⟨(row_two (by decide +kernel) (by decide +kernel)).trans (h.bad (by decide) rfl (by decide)), by have := h.len; simp [cds]; lia, by
  have e : cds "take" ++ 32 :: (P ++ [59]) = (cds "take" ++ 32 :: P) ++ [59] := by simp
  rw [e]
  exact fr2_last (by simp [h.s]; decide +kernel)⟩
theorem oddr_11 (h : Pa1 P) : OddR (cds "copy" ++ 32 :: (P ++ 32 :: (P ++ 32 :: P))) := ⟨thing_no h (by decide +kernel) (by decide +kernel) (by
  unfold thingN
  rw [if_neg (by decide +kernel), if_neg (by decide +kernel)]
  exact h.bad (by decide) rfl (by decide)), by have := h.len; simp [cds]; lia, fr2_no (by simp [h.s]; decide +kernel)⟩
theorem semi_app {w O : List Nat} (hw : 59 ∉ w) (h : OddT O) : fr2 (w ++ O) = true := by
  rcases h.semi with z | ⟨l, rfl, z⟩
  · exact fr2_no (by simp [hw, z])
  · rw [← List.append_assoc]
    exact fr2_last (by simp [hw, z])
theorem oddr_12 (h : Pa1 P) (o : OddT O) : OddR (cds "put" ++ 32 :: (P ++ 32 :: O)) := ⟨thing_no h (by decide +kernel) (by decide +kernel) (by
  unfold thingN
  rw [if_pos (by decide +kernel), o.raw]
  rfl), by have := h.len; have := o.len; simp [cds]; lia, by
  have e : cds "put" ++ 32 :: (P ++ 32 :: O) = (cds "put" ++ 32 :: (P ++ [32])) ++ O := by simp
  rw [e]
  exact semi_app (by simp [h.s]; decide +kernel) o⟩
theorem oddr_13 (h : Pa1 P) (o : OddT O) : OddR (cds "ask" ++ 32 :: (P ++ 32 :: O)) := ⟨thing_no h (by decide +kernel) (by decide +kernel) (by
  unfold thingN
  rw [if_pos (by decide +kernel), o.raw]
  rfl), by have := h.len; have := o.len; simp [cds]; lia, by
  have e : cds "ask" ++ 32 :: (P ++ 32 :: O) = (cds "ask" ++ 32 :: (P ++ [32])) ++ O := by simp
  rw [e]
  exact semi_app (by simp [h.s]; decide +kernel) o⟩
theorem oddr_14 (o : OddP W) : OddR (cds "change" ++ 32 :: (W ++ [32, 49])) := ⟨by
  rw [row_three (by decide +kernel) (by decide +kernel)]
  unfold thingN
  rw [if_pos (by decide +kernel)]
  exact o.chg, by have := o.len; simp [cds]; lia, fr2_no (by simp [o.semi]; decide +kernel)⟩
theorem oddr_15 (o : OddP W) : OddR (cds "lacks" ++ 32 :: W) := ⟨(row_two (by decide +kernel) (by decide +kernel)).trans o.no, by have := o.len; simp [cds]; lia, fr2_no (by simp [o.semi]; decide +kernel)⟩
theorem oddr_16 (h : Pa1 P) : OddR (cds "is" ++ 32 :: (P ++ 32 :: cds "row ")) := ⟨thing_no h (by decide +kernel) (by decide +kernel) (by decide +kernel), by have := h.len; simp [cds]; lia, fr2_no (by simp [h.s]; decide +kernel)⟩
theorem oddr_17 (h : Pa1 P) : OddR (32 :: (cds "take" ++ 32 :: P)) := ⟨row_no (w := []) (by simp) (by decide +kernel), by have := h.len; simp [cds]; lia, fr2_no (by simp [h.s]; decide +kernel)⟩
theorem oddr_18 (h : Pa1 P) : OddR (cds "move" ++ 32 :: (P ++ 32 :: [48])) := ⟨thing_no h (by decide +kernel) (by decide +kernel) (by decide +kernel), by have := h.len; simp [cds]; lia, fr2_no (by simp [h.s]; decide +kernel)⟩
theorem goodr_0 (h : Pa1 P) : GoodR (cds "take" ++ 32 :: P) := ⟨(row_two (by decide +kernel) (by decide +kernel)).trans h.ok, by have := h.len; simp [cds]; lia, fr2_no (by simp [h.s]; decide +kernel)⟩
theorem goodr_1 : GoodR (cds "has /") := ⟨by decide +kernel, by decide +kernel, by decide +kernel⟩
theorem goodr_2 (h : Pa1 P) : GoodR (cds "put" ++ 32 :: (P ++ (cds "/20" ++ 32 :: cds "[1 'a']"))) := ⟨by
  have e : P ++ (cds "/20" ++ 32 :: cds "[1 'a']") = (P ++ cds "/20") ++ 32 :: cds "[1 'a']" := by simp
  have nb : 32 ∉ P ++ cds "/20" := by simp [h.b (by decide : 32 < 47)]; decide +kernel
  rw [row_three (by decide +kernel) (by decide +kernel), e, (hd_app nb).1, (hd_app nb).2]
  have t : thingN (cds "put") (cds "[1 'a']") = true := by decide +kernel
  rw [t, Bool.and_true]
  obtain ⟨nm, rfl, hn⟩ := h.ex
  show ((nm ++ 47 :: [50, 48]).isEmpty || (spl1 47 (nm ++ 47 :: [50, 48])).all stepB) = true
  rw [spl1_go (no_c hn (by decide)), List.all_cons]
  have s1 : stepB nm = true := by unfold stepB; rw [hn]; rfl
  have s2 : (spl1 47 [50, 48]).all stepB = true := by decide +kernel
  rw [s1, s2]
  simp, by have := h.len; simp [cds]; lia, fr2_no (by simp [h.s]; decide +kernel)⟩
theorem goodr_3 : GoodR (cds "is / table") := ⟨by decide +kernel, by decide +kernel, by decide +kernel⟩
theorem goodr_4 (h : Pa1 P) : GoodR (cds "copy" ++ 32 :: 47 :: 32 :: P) := ⟨by
  rw [row_three (by decide +kernel) (by decide +kernel)]
  have e1 : hd32 (47 :: 32 :: P) = [47] ∧ tl32 (47 :: 32 :: P) = P := hd_app (a := [47]) (by decide)
  rw [e1.1, e1.2]
  unfold thingN
  rw [if_neg (by decide +kernel), if_neg (by decide +kernel), h.ok]
  rfl, by have := h.len; simp [cds]; lia, fr2_no (by simp [h.s]; decide +kernel)⟩
theorem goodr_5 : GoodR (cds "ask /0 {}") := ⟨by decide +kernel, by decide +kernel, by decide +kernel⟩
end
theorem bad_at : ∀ {gs : List Str} {o : Str} {r : List Str} {i : Nat}, (∀ g ∈ gs, rowN (sgn g) = true) → rowN (sgn o) = false → badAt (gs ++ o :: r) i = some (i + gs.length)
  | [], o, r, i, _, h => by
    show (if (rowO o).isSome = true then _ else _) = _
    rw [row_is, h]
    rfl
  | g :: gs, o, r, i, hg, h => by
    show (if (rowO g).isSome = true then badAt (gs ++ o :: r) (i + 1) else _) = _
    rw [row_is, hg g List.mem_cons_self, if_pos rfl, bad_at (fun z hz => hg z (List.mem_cons_of_mem _ hz)) h, List.length_cons]
    congr 1
    lia
end L2

set_option Elab.async false
set_option linter.all false
set_option maxRecDepth 100000
set_option maxHeartbeats 4000000
namespace L2
open PySem PySem.Spec PyProof.Rows
section
variable {X : Cx}
theorem strsAre_vals  : ∀ {us : List Value}, Vals (ss.map V.str) us → StrsAre us ss := by
  induction ss with
  | nil => intro us h; cases h; exact .nil
  | cons x r ih =>
    intro us h
    cases h with
    | cons h1 h2 =>
      obtain ⟨t, rfl⟩ := h1
      exact .cons x t (ih h2)
inductive rSortL (K : PySem.W.Frag) (xs : List V) (H : Hp) (Q : VK) : Prop
  | mk (d : Addr) (ss : List Str) (h0_ : xs = [.ref d]) (h1_ : SqL K H d (ss.map V.str)) (h3_ : ss.length < 64) (h4_ : ∀ (p : Addr) (ss' : List Str) (H' : Hp), H p = none → Same H H' → H' p = some (.lst (ss'.map V.str)) → ss'.Perm ss → sortedS ss' = true → Q (.ref p) H')
theorem call_sortedL (hc : X.calm = true) : CallR X (.builtin "sorted") (rSortL X.K) := by
  intro pins s σ H xs us Q I r h
  obtain ⟨d, ss, rfl, hd, h64, q⟩ := h
  obtain ⟨u, rfl, ru⟩ := vals1 r
  cases ru
  obtain ⟨its, rv, pl, hz⟩ := I.list hd
  obtain ⟨ob, hob, hob1, hn, hob2⟩ := id pl.isList
  have hl : its.length = ss.length := by rw [← rv.length, List.length_map]
  have hz : its.length ≤ sizeLine := Nat.le_of_lt (small1000 (Nat.le_trans (Nat.le_trans (Nat.le_of_eq hl) (Nat.le_of_lt h64)) (by decide)))
  have hS : StrsAre its ss := strsAre_vals rv
  refine Calls.call_function_entry kind_sorted plain_sorted entry_sorted (args_sorted1 _) ?_
  unfold Builtin.«sorted»
  refine wpAny_bind (m := checkCount "sorted" 1 1 _) (wpAny_pure (wpAny_bind (wpAny_collect_seq d (.inl rfl) hob hob1 hob2 (fun h' keep => ?_) (by rw [List.size_toArray]; exact hz))))
  rw [List.toList_toArray]
  refine wpAny_bind (wpAny_newList ?_ hz)
  have hnew : (h'.push { cls := .type "list", data := .seq its.toArray }).get? h'.objs.size = some (seqObj "list" its.toArray 0) := Heap.get?_push_size _ rfl
  refine wpAny_bind (wpAny_holding (wpAny_call_entry slot_list_sort ⟨_, hnew, rfl⟩ entry_list_sort (list_sort_treeK strKind_oneLt hnew hS.keysOf (fun v₁ v₂ rest e => keyKind_strs (by rw [← e]; exact hS)) (by rw [hl]; exact h64) fun st' a1 a2 => ⟨_, rfl, ?_⟩) (args_list_sort _)))
  obtain ⟨ss', b1, b2, b3⟩ := sorted_out_str hS a1 a2
  obtain ⟨ee, he⟩ := sortedHeap_at (out := (arrOf st').map (·.2)) hnew
  refine wpAny_pure ⟨_, rfl, ?_⟩
  have szp : (h'.push { cls := .type "list", data := .seq its.toArray }).objs.size = h'.objs.size + 1 := size_push' ..
  have I1 := I.kept (t' := s.toks) keep
  have k2 : ∀ b o, h'.get? b = some o → (sortedHeap (h'.push { cls := .type "list", data := .seq its.toArray }) h'.objs.size its ((arrOf st').map (·.2))).get? b = some o := fun b o e => by
    have hb : b < h'.objs.size := Heap.lt_size e
    rw [sortedHeap_old (Nat.ne_of_lt hb) (by rw [szp]; exact Nat.lt_succ_of_lt hb)]
    exact Heap.get?_push_of_some _ e
  have hss : ss'.length ≤ sizeLine := by
    rw [b2.length_eq, ← hl]
    exact hz
  have new : ObjOk X.prog X.w (upd H h'.objs.size (.lst (ss'.map V.str))) (sortedHeap (h'.push { cls := .type "list", data := .seq its.toArray }) h'.objs.size its ((arrOf st').map (·.2))) h'.objs.size (.lst (ss'.map V.str)) :=
    ⟨by rw [List.length_map]; exact hss, ((arrOf st').map (·.2)).toList, ee, vals_strs b1, by rw [Array.toArray_toList]; exact he⟩
  have hf : H h'.objs.size = none := I1.fresh
  exact ⟨.ref h'.objs.size, _, I1.laid (t' := s.toks) k2 (Nat.le_refl _) new, rfl, q _ ss' _ hf (Same.new hf) upd_same b2 b3⟩
end
end L2

set_option Elab.async false
set_option linter.all false
set_option maxRecDepth 100000
set_option maxHeartbeats 4000000
namespace L2
open PySem PySem.Spec PyProof.Rows
inductive NoTx (H : Hp) : Nat → V → Nat → Prop
  | doc (x : Str) (lx : x.length ≤ 1000) (n : pd (sgn x) = none) : NoTx H 0 (.str x) 0
  | path (x : Str) (lx : x.length ≤ 1000) (n : pathN (sgn x) = false) : NoTx H 1 (.str x) 0
  | rows (x : Str) (i : Nat) (lx : x.length ≤ 1000) (ne : x ≠ "") (b : badAt (Txt.split x "; ") 0 = some i) : NoTx H 2 (.str x) i
  | odd (w : Nat) (v : V) (T : String) (lw : w < 3) (t : TyN H v T) (n : isiB T "str" = false) : NoTx H w v 0
inductive spNoTI (vs : List V) (H : Hp) (Q : VK) : Prop
  | mk (w : Nat) (v : V) (i : Nat) (x0 : vs = [.int (w : Int), v]) (k : NoTx H w v i) (q : ∀ H', Same H H' → Q (.int (i : Int)) H')
def spNoT : Sp := fun vs H Q _ => spNoTI vs H Q
theorem path_no {x : Str} (h : pathN (sgn x) = false) : pathV x = none := by
  rw [← path_is] at h
  cases e : pathV x with
  | none => rfl
  | some _ => rw [e] at h; cases h
def tNo (c : Nat → Addr) (K : PySem.W.Frag) : TSX := fun D σ H E => tTest (tOp rEq (tVar 0) (tC (V.int 0))) σ H fun b H1 =>
  if b = true then tCons (tVar 1) tNil σ H1 fun vs H1 => spRead c vs H1 (fun _ H1 => D.nx σ H1) E
  else tTest (tOp rEq (tVar 0) (tC (V.int 1))) σ H1 fun b H1 =>
    if b = true then tCons (tVar 1) tNil σ H1 fun vs H1 => spRPath c K vs H1 (fun _ H1 => D.nx σ H1) E
    else tCons (tVar 1) tNil σ H1 fun vs H1 => spRRows c vs H1 (fun _ H1 => D.nx σ H1) E
theorem no_ok {c : Nat → Addr} {K : PySem.W.Frag} {D : Ends} {H : Hp} {w0 i0 : Nat} {v0 : V} {o2 o3 : Option V} (k0 : NoTx H w0 v0 i0) (EE : XK) (hand : ∀ d H1, Same H H1 → HasF 5 (i0 : Int) 0 d H1 → EE .none d H1 ∧ EE (.ref (c 5)) d H1) : tNo c K D [some (.int (w0 : Int)), some v0, o2, o3] H EE := by
  cases k0 with
  | doc x lx n =>
    exact ⟨_, rfl, rfl, _, rfl, iteBT rfl ⟨_, rfl, .txt x rfl lx (fun t et => by rw [n] at et; cases et) fun _ d H1 s1 hf => (hand d H1 s1 hf).2⟩⟩
  | path x lx n =>
    exact ⟨_, rfl, rfl, _, rfl, iteBF rfl ⟨_, rfl, rfl, _, rfl, iteBT rfl ⟨_, rfl, .txt x rfl lx (fun t et => by rw [path_no n] at et; cases et) fun _ d H1 s1 hf => (hand d H1 s1 hf).2⟩⟩⟩
  | rows x i lx ne b =>
    exact ⟨_, rfl, rfl, _, rfl, iteBF rfl ⟨_, rfl, rfl, _, rfl, iteBF rfl ⟨_, rfl, .txt x i0 rfl lx ne b fun d H1 s1 hf => hand d H1 s1 hf⟩⟩⟩
  | odd w v T lw t n =>
    match w0, lw with
    | 0, _ => exact ⟨_, rfl, rfl, _, rfl, iteBT rfl ⟨_, rfl, .odd v0 T rfl t n fun _ d H1 s1 hf => (hand d H1 s1 hf).2⟩⟩
    | 1, _ => exact ⟨_, rfl, rfl, _, rfl, iteBF rfl ⟨_, rfl, rfl, _, rfl, iteBT rfl ⟨_, rfl, .odd v0 T rfl t n fun _ d H1 s1 hf => (hand d H1 s1 hf).2⟩⟩⟩
    | 2, _ => exact ⟨_, rfl, rfl, _, rfl, iteBF rfl ⟨_, rfl, rfl, _, rfl, iteBF rfl ⟨_, rfl, .odd v0 T rfl t n fun _ d H1 s1 hf => (hand d H1 s1 hf).2⟩⟩⟩
inductive Nm6 (H : Hp) (n : Addr) (ys : List Str) : Prop
  | mk (h : H n = some (.lst (ys.map V.str))) (l : ys.length = 6) (nm : ∀ y ∈ ys, nameB y = true)
theorem Nm6.up {H H' : Hp} {n : Addr} {ys : List Str} (h : Nm6 H n ys) (s : Same H H') : Nm6 H' n ys := ⟨s _ _ h.1, h.2, h.3⟩
inductive spOddDI (vs : List V) (H : Hp) (Q : VK) : Prop
  | mk (c : Int) (n : Addr) (ys : List Str) (x0 : vs = [.int c, .ref n]) (h : Nm6 H n ys) (q : ∀ (s : Str) H', Same H H' → Odd (sgn s) → Q (.str s) H')
def spOddD : Sp := fun vs H Q _ => spOddDI vs H Q
inductive spOddTxI (vs : List V) (H : Hp) (Q : VK) : Prop
  | mk (c : Int) (n : Addr) (ys : List Str) (x0 : vs = [.int c, .ref n]) (h : Nm6 H n ys) (q : ∀ (s : Str) H', Same H H' → OddT (sgn s) → Q (.str s) H')
def spOddTx : Sp := fun vs H Q _ => spOddTxI vs H Q
inductive spOddPaI (vs : List V) (H : Hp) (Q : VK) : Prop
  | mk (c : Int) (n : Addr) (ys : List Str) (x0 : vs = [.int c, .ref n]) (h : Nm6 H n ys) (q : ∀ (s : Str) H', Same H H' → OddP (sgn s) → Q (.str s) H')
def spOddPa : Sp := fun vs H Q _ => spOddPaI vs H Q
inductive spOddRoI (vs : List V) (H : Hp) (Q : VK) : Prop
  | mk (c : Int) (n : Addr) (ys : List Str) (x0 : vs = [.int c, .ref n]) (h : Nm6 H n ys) (q : ∀ (s : Str) H', Same H H' → OddR (sgn s) → Q (.str s) H')
def spOddRo : Sp := fun vs H Q _ => spOddRoI vs H Q
inductive spRowsLI (vs : List V) (H : Hp) (Q : VK) : Prop
  | mk (c : Int) (n : Addr) (ys : List Str) (x0 : vs = [.int c, .ref n]) (h : Nm6 H n ys) (q : ∀ (p : Addr) (s : Str) (i : Nat) H', Same H H' → H' p = some (.tup [.str s, .int (i : Int)]) → s.length ≤ 1000 → s ≠ "" → badAt (Txt.split s "; ") 0 = some i → Q (.ref p) H')
def spRowsL : Sp := fun vs H Q _ => spRowsLI vs H Q
theorem R_rows {cs : List Nat} (hc : ∀ t, cs ≠ 93 :: t) : ∀ {k : Nat} {st : List Fr}, st.length + k ≤ 99 → (∀ n, readP n cs (List.replicate k ⟨false, [], [], []⟩ ++ st) none = none) → ∀ n, readP n (List.replicate k 91 ++ cs) st none = none
  | 0, st, _, h => h
  | k + 1, st, l, h => by
    refine R_beg (cs' := List.replicate k 91 ++ cs) (st' := ⟨false, [], [], []⟩ :: st) (d' := none) ?_ (R_rows hc (by simp; lia) fun n => ?_)
    · rw [List.replicate_succ, List.cons_append, beg_row (by lia), bh_row]
      intro t z
      cases k with
      | zero => exact hc t z
      | succ k => exact absurd (List.cons.inj z).1 (by decide)
    · have := h n
      rw [List.replicate_succ', List.append_assoc] at this
      exact this
theorem pd_far {nm r : List Nat} (h : nameS nm = true) : pd (List.replicate 99 91 ++ 123 :: (nm ++ 58 :: 123 :: r)) = none := by
  refine R_rows (fun t z => absurd (List.cons.inj z).1 (by decide)) (by decide) (fun n => ?_) _
  refine R_beg (cs' := 123 :: r) (st' := ⟨true, nm, [], []⟩ :: (List.replicate 99 ⟨false, [], [], []⟩ ++ [])) (d' := none) ?_ (R_no (beg_no (by simp))) n
  rw [beg_tab (by simp), bh_tab, nm_in h (ltL_nil h)]
  · rfl
  · obtain ⟨a, r', rfl, ha, _⟩ := nm_head h
    intro t z
    have := (List.cons.inj z).1
    lia
theorem pd_deep : pd (nest 99) = some (chain 99) := by kernel_rfl
theorem pd_deep2 : pd (91 :: (nest 99 ++ [93])) = none := isNone_eq (by decide +kernel)
theorem pd_open : pd (List.replicate 200 91) = none := isNone_eq (by decide +kernel)
end L2

set_option Elab.async false
set_option linter.all false
set_option maxRecDepth 100000
set_option maxHeartbeats 4000000
namespace L2
open PySem PySem.Spec PyProof.Rows
def TxE (te : TE) (σ : St) (H : Hp) (l : List Nat) : Prop := ∀ Q : VK, (∀ s, sgn s = l → Q (.str s) H) → te σ H Q
section
variable {σ : St} {H : Hp} {a b : TE} {l m : List Nat}
theorem TxE.c {t : String} (l : List Nat) (c : sgn (Str.ofString t) = l := by decide +kernel) : TxE (tC (.str (Str.ofString t))) σ H l := fun Q k => k _ c
theorem TxE.v {i : Nat} {y : Str} (h : σ[i]? = some (some (.str y))) : TxE (tVar i) σ H (sgn y) := fun Q k => ⟨_, h, k y rfl⟩
theorem TxE.add (ha : TxE a σ H l) (hb : TxE b σ H m) (n : l.length + m.length ≤ 1000) : TxE (tOp r_op_add_str a b) σ H (l ++ m) := fun Q k => ha _ fun s es => hb _ fun t et => ⟨s, t, rfl, rfl, by rw [str_len, str_len, es, et]; exact Nat.le_trans n (by decide), k _ (by rw [sgn_app, es, et])⟩
theorem TxE.mul {t : String} {n : Int} (l : List Nat) (o : MulOk (Str.ofString t) n) (c : sgn (Txt.mul (Str.ofString t) n) = l := by decide +kernel) : TxE (tOp r_op_mul_str (tC (.str (Str.ofString t))) (tC (.int n))) σ H l := fun Q k => ⟨_, _, rfl, rfl, o, k _ c⟩
theorem TxE.eq (h : TxE a σ H l) (e : l = m) : TxE a σ H m := e ▸ h
def Txs (n : Nat) (ta : TA) (σ : St) (H : Hp) (P : List Nat → Prop) : Prop := ∀ Q : List V → Hp → Prop, (∀ ss : List Str, ss.length = n → (∀ s ∈ ss, P (sgn s)) → Q (ss.map V.str) H) → ta σ H Q
variable {P : List Nat → Prop} {ta : TA} {n : Nat}
theorem Txs.nil : Txs 0 tNil σ H P := fun Q k => k [] rfl fun s hs => nomatch hs
theorem Txs.cons (h : TxE a σ H l) (p : P l) (t : Txs n ta σ H P) : Txs (n + 1) (tCons a ta) σ H P := fun Q k => h _ fun s es => t _ fun ss ls hs => k (s :: ss) (by rw [List.length_cons, ls]) fun z hz => by
  rcases List.mem_cons.mp hz with rfl | hz
  · rw [es]; exact p
  · exact hs z hz
theorem Txs.lst (t : Txs n ta σ H P) {Q : VK} (hn : n ≤ 1000) (k : ∀ (p : Addr) (ss : List Str) H', H p = none → Same H H' → H' p = some (.lst (ss.map V.str)) → ss.length = n → (∀ s ∈ ss, P (sgn s)) → Q (.ref p) H') : tLst ta σ H Q :=
  t _ fun ss ls hs => ⟨by rw [List.length_map, ls]; exact le_line hn, .mk fun p H' np s f => k p ss H' np s f ls hs⟩
theorem Txs.cat (t : Txs n ta σ H P) {Q : VK} {i : Nat} {L : Addr} {rs : List Str} (hi : σ[i]? = some (some (.ref L))) (hL : H L = some (.lst (rs.map V.str))) (hr : ∀ s ∈ rs, P (sgn s)) (hn : rs.length + n ≤ 1000)
    (k : ∀ (p : Addr) (ss : List Str) H', H p = none → Same H H' → H' p = some (.lst (ss.map V.str)) → ss.length = rs.length + n → (∀ s ∈ ss, P (sgn s)) → Q (.ref p) H') : tOp rCat (tVar i) (tLst ta) σ H Q :=
  ⟨_, hi, t.lst (Nat.le_trans (Nat.le_add_left _ _) hn) fun p ss H' _ s f ls hs => ⟨L, p, _, _, rfl, rfl, s _ _ hL, f, by rw [List.length_map, List.length_map, ls]; exact le_line hn, .mk fun p2 H2 np s2 f2 => by
    rw [← List.map_append] at f2
    exact k p2 (rs ++ ss) H2 (s.free np) (s.trans s2) f2 (by rw [List.length_append, ls]) fun z hz => (List.mem_append.mp hz).elim (hr z) (hs z)⟩⟩
theorem pick_txt {K : PySem.W.Frag} {Q : VK} {L : Addr} {ss : List Str} {r : Int} {n : Nat} (hL : H L = some (.lst (ss.map V.str))) (hn : ss.length = n) (h0 : 0 < n) (hs : ∀ s ∈ ss, P (sgn s)) (k : ∀ s, P (sgn s) → Q (.str s) H) : rIxL K (.ref L) (.int (r % (n : Int))) H Q := by
  have mb := mod_b r (n := (n : Int)) (by lia)
  obtain ⟨v, hv, hm⟩ := pick_mem (xs := ss.map V.str) mb.1 (by rw [List.length_map, hn]; exact mb.2)
  obtain ⟨s, hs', rfl⟩ := List.mem_map.mp hm
  exact ⟨L, _, _, _, rfl, rfl, SqL.of hL, hv, k s (hs s hs')⟩
end
theorem Nm6.pick {K : PySem.W.Frag} {H : Hp} {Q : VK} {n : Addr} {ys : List Str} {r : Int} (h : Nm6 H n ys) (k : ∀ y, nameS (sgn y) = true → Q (.str y) H) : rIxL K (.ref n) (.int (r % 6)) H Q :=
  pick_txt (P := fun l => nameS l = true) (n := 6) h.1 h.2 (by decide) h.3 k
theorem mul_one {c : Nat} {n : Nat} (h : 2 ≤ n) : sgn (Txt.mul ⟨#[c]⟩ (n : Int)) = List.replicate n c := by
  unfold Txt.mul
  rw [if_neg (by lia), if_neg (by simp [Str.length]; lia)]
  show ((List.replicate ((n : Int)).toNat (#[c] : Array Nat)).foldl (· ++ ·) #[]).toList = _
  rw [Int.toNat_natCast]
  have : ∀ (k : Nat) (a : Array Nat), ((List.replicate k (#[c] : Array Nat)).foldl (· ++ ·) a).toList = a.toList ++ List.replicate k c := fun k => by
    induction k with
    | zero => intro a; simp
    | succ k ih => intro a; rw [List.replicate_succ, List.foldl_cons, ih]; simp [List.replicate_succ]
  rw [this]
  rfl
theorem mul_ok1 {x : Str} {n : Nat} (h : x.length = 1) (h2 : n ≤ 1000) : MulOk x (n : Int) := by
  refine ⟨?_, fun _ _ => ?_, fun _ _ => ?_⟩
  · rw [decide_eq_false (by lia), decide_eq_false (by lia)]; rfl
  · rw [h]
    intro z
    have hn : (0 : Int) < (n : Int) := by lia
    have : (1 : Int) ≤ (2 ^ 63 - 1) / (n : Int) := (Int.le_ediv_iff_mul_le hn).mpr (by lia)
    lia
  · rw [h, Int.toNat_natCast, Nat.one_mul]
    unfold PySem.Builtin.Str.tooLong
    exact decide_eq_false (Nat.not_lt.mpr (Nat.le_trans h2 (by decide)))
theorem two_least {ss ys : List Str} (l : ys.length = 6) (nm : ∀ y ∈ ys, nameB y = true) (pm : ss.Perm ys) (so : sortedS ss = true) : ∃ x0 x1 : Str, atI (ss.map V.str) 0 = some (.str x0) ∧ atI (ss.map V.str) 1 = some (.str x1) ∧ nameS (sgn x0) = true ∧ nameS (sgn x1) = true ∧ ltL (sgn x1) (sgn x0) = false := by
  have ls : ss.length = 6 := pm.length_eq.trans l
  match ss, ls with
  | x0 :: x1 :: r, _ =>
    refine ⟨x0, x1, at0, at1, nm x0 (pm.mem_iff.mp List.mem_cons_self), nm x1 (pm.mem_iff.mp (List.mem_cons_of_mem _ List.mem_cons_self)), ?_⟩
    have h : (!ltCps x1.cps.toList x0.cps.toList && risingS x1 r) = true := so
    rw [Bool.and_eq_true, Bool.not_eq_true', ltCps_eq] at h
    exact h.1
theorem mul_ok {t : String} {n : Nat} (h : (Str.ofString t).length = 1 := by decide +kernel) (h2 : n ≤ 1000 := by decide) : MulOk (Str.ofString t) (n : Int) := mul_ok1 h h2
end L2

set_option Elab.async false
set_option linter.all false
set_option maxRecDepth 100000
set_option maxHeartbeats 4000000
namespace L2
open PySem PySem.Spec PyProof.Rows
theorem TxE.w {σ : St} {H : Hp} {i : Nat} {y : Str} {l : List Nat} (h : σ[i]? = some (some (.str y))) (e : sgn y = l) : TxE (tVar i) σ H l := e ▸ TxE.v h
theorem gn {i : Nat} {v : V} {σ : St} {H : Hp} {Q : St → Hp → Prop} (h : Q (σ.set i (some v)) H) : gName i v σ H Q := h
theorem sq {te : TE} {i : Nat} {tb : TS} {D : Ends} {σ : St} {H : Hp} (h : te σ H fun x H1 => tb D (σ.set i (some x)) H1) : tSeq (tAsg te (gName i)) tb D σ H := h
theorem tp {r : R2} {a b : TE} {σ : St} {H : Hp} {Q : VK} (h : a σ H fun x H1 => b σ H1 fun y H2 => r x y H2 Q) : tOp r a b σ H Q := h
theorem trt {te : TE} {D : Ends} {σ : St} {H : Hp} (h : te σ H D.rt) : tRet te D σ H := h
theorem sd {te : TE} {tb : TS} {D : Ends} {σ : St} {H : Hp} (h : te σ H fun _ H1 => tb D σ H1) : tSeq (tDrop te) tb D σ H := h
theorem TxE.ix {K : PySem.W.Frag} {σ : St} {H : Hp} {i : Nat} {j : Int} {p : Addr} {xs : List V} {y : Str} {l : List Nat} (h : σ[i]? = some (some (.ref p))) (hp : H p = some (.lst xs)) (a : atI xs j = some (.str y)) (e : sgn y = l) : TxE (tOp (rIxL K) (tVar i) (tC (.int j))) σ H l := fun Q k => ⟨_, h, p, xs, j, _, rfl, rfl, SqL.of hp, a, k y e⟩
theorem cut_last {l : List Nat} {c : Nat} : cutN (l ++ [c]) (some (-1)) none = [c] := by
  unfold cutN
  have e0 : HT.sIx (l ++ [c]).length (l ++ [c]).length none = (l ++ [c]).length := rfl
  have e1 : HT.sIx (l ++ [c]).length 0 (some (-1)) = l.length := by
    unfold HT.sIx
    simp
    lia
  rw [e0, e1]
  simp
theorem od_1 {σ : St} {H : Hp}  : Txs 13 (tCons (tC (.str "-0")) (tCons (tC (.str "00")) (tCons (tC (.str "01")) (tCons (tC (.str "-")) (tCons (tC (.str "+1")) (tCons (tC (.str "1.5")) (tCons (tOp r_op_mul_str (tC (.str "1")) (tC (.int 61))) (tCons (tOp r_op_add_str (tC (.str "-")) (tOp r_op_mul_str (tC (.str "2")) (tC (.int 61)))) (tCons (tC (.str "'")) (tCons (tC (.str "'a")) (tCons (tC (.str "'A'")) (tCons (tC (.str "'a b'")) (tCons (tC (.str "'abcdefghijklm'")) tNil))))))))))))) σ H Odd :=
  .cons (TxE.eq (a := (tC (.str "-0"))) (m := cds "-0") (.c [45, 48]) (by decide +kernel)) (odd_con (by decide +kernel)) (.cons (TxE.eq (a := (tC (.str "00"))) (m := cds "00") (.c [48, 48]) (by decide +kernel)) (odd_con (by decide +kernel)) (.cons (TxE.eq (a := (tC (.str "01"))) (m := cds "01") (.c [48, 49]) (by decide +kernel)) (odd_con (by decide +kernel)) (.cons (TxE.eq (a := (tC (.str "-"))) (m := cds "-") (.c [45]) (by decide +kernel)) (odd_con (by decide +kernel)) (.cons (TxE.eq (a := (tC (.str "+1"))) (m := cds "+1") (.c [43, 49]) (by decide +kernel)) (odd_con (by decide +kernel)) (.cons (TxE.eq (a := (tC (.str "1.5"))) (m := cds "1.5") (.c [49, 46, 53]) (by decide +kernel)) (odd_con (by decide +kernel)) (.cons (TxE.eq (a := (tOp r_op_mul_str (tC (.str "1")) (tC (.int 61)))) (m := cds "1111111111111111111111111111111111111111111111111111111111111") (.mul (n := ((61 : Nat) : Int)) [49, 49, 49, 49, 49, 49, 49, 49, 49, 49, 49, 49, 49, 49, 49, 49, 49, 49, 49, 49, 49, 49, 49, 49, 49, 49, 49, 49, 49, 49, 49, 49, 49, 49, 49, 49, 49, 49, 49, 49, 49, 49, 49, 49, 49, 49, 49, 49, 49, 49, 49, 49, 49, 49, 49, 49, 49, 49, 49, 49, 49] mul_ok) (by decide +kernel)) (odd_con (by decide +kernel)) (.cons (TxE.eq (a := (tOp r_op_add_str (tC (.str "-")) (tOp r_op_mul_str (tC (.str "2")) (tC (.int 61))))) (m := cds "-2222222222222222222222222222222222222222222222222222222222222") (.add (.c [45]) (.mul (n := ((61 : Nat) : Int)) [50, 50, 50, 50, 50, 50, 50, 50, 50, 50, 50, 50, 50, 50, 50, 50, 50, 50, 50, 50, 50, 50, 50, 50, 50, 50, 50, 50, 50, 50, 50, 50, 50, 50, 50, 50, 50, 50, 50, 50, 50, 50, 50, 50, 50, 50, 50, 50, 50, 50, 50, 50, 50, 50, 50, 50, 50, 50, 50, 50, 50] mul_ok) (by simp <;> lia)) (by decide +kernel)) (odd_con (by decide +kernel)) (.cons (TxE.eq (a := (tC (.str "'"))) (m := cds "'") (.c [39]) (by decide +kernel)) (odd_con (by decide +kernel)) (.cons (TxE.eq (a := (tC (.str "'a"))) (m := cds "'a") (.c [39, 97]) (by decide +kernel)) (odd_con (by decide +kernel)) (.cons (TxE.eq (a := (tC (.str "'A'"))) (m := cds "'A'") (.c [39, 65, 39]) (by decide +kernel)) (odd_con (by decide +kernel)) (.cons (TxE.eq (a := (tC (.str "'a b'"))) (m := cds "'a b'") (.c [39, 97, 32, 98, 39]) (by decide +kernel)) (odd_con (by decide +kernel)) (.cons (TxE.eq (a := (tC (.str "'abcdefghijklm'"))) (m := cds "'abcdefghijklm'") (.c [39, 97, 98, 99, 100, 101, 102, 103, 104, 105, 106, 107, 108, 109, 39]) (by decide +kernel)) (odd_con (by decide +kernel)) (.nil)))))))))))))
theorem od_2 {σ : St} {H : Hp} {nm : List Nat} {y : Str} (h2 : σ[2]? = some (some (.str y))) (e2 : sgn y = nm) (g : nameS nm = true) (len : nm.length ≤ 8) : Txs 10 (tCons (tC (.str "[ ]")) (tCons (tC (.str "[1 ")) (tCons (tC (.str "[1,2]")) (tCons (tC (.str "[1  2]")) (tCons (tC (.str "[1]]")) (tCons (tC (.str "{ }")) (tCons (tOp r_op_add_str (tOp r_op_add_str (tC (.str "{")) (tVar 2)) (tC (.str "}"))) (tCons (tOp r_op_add_str (tOp r_op_add_str (tC (.str "{")) (tVar 2)) (tC (.str ": 1}"))) (tCons (tC (.str "{:1}")) (tCons (tVar 2) tNil)))))))))) σ H Odd :=
  .cons (TxE.eq (a := (tC (.str "[ ]"))) (m := cds "[ ]") (.c [91, 32, 93]) (by decide +kernel)) (odd_con (by decide +kernel)) (.cons (TxE.eq (a := (tC (.str "[1 "))) (m := cds "[1 ") (.c [91, 49, 32]) (by decide +kernel)) (odd_con (by decide +kernel)) (.cons (TxE.eq (a := (tC (.str "[1,2]"))) (m := cds "[1,2]") (.c [91, 49, 44, 50, 93]) (by decide +kernel)) (odd_con (by decide +kernel)) (.cons (TxE.eq (a := (tC (.str "[1  2]"))) (m := cds "[1  2]") (.c [91, 49, 32, 32, 50, 93]) (by decide +kernel)) (odd_con (by decide +kernel)) (.cons (TxE.eq (a := (tC (.str "[1]]"))) (m := cds "[1]]") (.c [91, 49, 93, 93]) (by decide +kernel)) (odd_con (by decide +kernel)) (.cons (TxE.eq (a := (tC (.str "{ }"))) (m := cds "{ }") (.c [123, 32, 125]) (by decide +kernel)) (odd_con (by decide +kernel)) (.cons (TxE.eq (a := (tOp r_op_add_str (tOp r_op_add_str (tC (.str "{")) (tVar 2)) (tC (.str "}")))) (m := 123 :: (nm ++ [125])) (.add (.add (.c [123]) (.w h2 e2) (by simp <;> lia)) (.c [125]) (by simp <;> lia)) (by simp [cds])) (odd_n1 g) (.cons (TxE.eq (a := (tOp r_op_add_str (tOp r_op_add_str (tC (.str "{")) (tVar 2)) (tC (.str ": 1}")))) (m := 123 :: (nm ++ [58, 32, 49, 125])) (.add (.add (.c [123]) (.w h2 e2) (by simp <;> lia)) (.c [58, 32, 49, 125]) (by simp <;> lia)) (by simp [cds])) (odd_n2 g) (.cons (TxE.eq (a := (tC (.str "{:1}"))) (m := cds "{:1}") (.c [123, 58, 49, 125]) (by decide +kernel)) (odd_con (by decide +kernel)) (.cons (.w h2 e2) (odd_n3 g) (.nil))))))))))
theorem od_3 {σ : St} {H : Hp} {nm : List Nat} {y : Str} (h2 : σ[2]? = some (some (.str y))) (e2 : sgn y = nm) (g : nameS nm = true) (len : nm.length ≤ 8) : Txs 4 (tCons (tC (.str "{abcdefghi:1}")) (tCons (tOp r_op_add_str (tOp r_op_add_str (tOp r_op_add_str (tOp r_op_add_str (tC (.str "{")) (tVar 2)) (tC (.str ":1 "))) (tVar 2)) (tC (.str ":1}"))) (tCons (tC (.str "{A:1}")) (tCons (tC (.str "]")) tNil)))) σ H Odd :=
  .cons (TxE.eq (a := (tC (.str "{abcdefghi:1}"))) (m := cds "{abcdefghi:1}") (.c [123, 97, 98, 99, 100, 101, 102, 103, 104, 105, 58, 49, 125]) (by decide +kernel)) (odd_con (by decide +kernel)) (.cons (TxE.eq (a := (tOp r_op_add_str (tOp r_op_add_str (tOp r_op_add_str (tOp r_op_add_str (tC (.str "{")) (tVar 2)) (tC (.str ":1 "))) (tVar 2)) (tC (.str ":1}")))) (m := 123 :: (nm ++ 58 :: 49 :: 32 :: (nm ++ [58, 49, 125]))) (.add (.add (.add (.add (.c [123]) (.w h2 e2) (by simp <;> lia)) (.c [58, 49, 32]) (by simp <;> lia)) (.w h2 e2) (by simp <;> lia)) (.c [58, 49, 125]) (by simp <;> lia)) (by simp [cds])) (odd_n4 g g ltL_self (.inl rfl)) (.cons (TxE.eq (a := (tC (.str "{A:1}"))) (m := cds "{A:1}") (.c [123, 65, 58, 49, 125]) (by decide +kernel)) (odd_con (by decide +kernel)) (.cons (TxE.eq (a := (tC (.str "]"))) (m := cds "]") (.c [93]) (by decide +kernel)) (odd_con (by decide +kernel)) (.nil))))
theorem od_4 {σ : St} {H : Hp} {nm : List Nat} {y : Str} (h2 : σ[2]? = some (some (.str y))) (e2 : sgn y = nm) (g : nameS nm = true) (len : nm.length ≤ 8) : Txs 4 (tCons (tOp r_op_add_str (tOp r_op_add_str (tOp r_op_add_str (tC (.str "{")) (tVar 2)) (tC (.str ":1  "))) (tC (.str "}"))) (tCons (tC (.str "'a'b")) (tCons (tC (.str "[1]'")) (tCons (tC (.str "True")) tNil)))) σ H Odd :=
  .cons (TxE.eq (a := (tOp r_op_add_str (tOp r_op_add_str (tOp r_op_add_str (tC (.str "{")) (tVar 2)) (tC (.str ":1  "))) (tC (.str "}")))) (m := 123 :: (nm ++ [58, 49, 32, 32, 125])) (.add (.add (.add (.c [123]) (.w h2 e2) (by simp <;> lia)) (.c [58, 49, 32, 32]) (by simp <;> lia)) (.c [125]) (by simp <;> lia)) (by simp [cds])) (odd_n5 g) (.cons (TxE.eq (a := (tC (.str "'a'b"))) (m := cds "'a'b") (.c [39, 97, 39, 98]) (by decide +kernel)) (odd_con (by decide +kernel)) (.cons (TxE.eq (a := (tC (.str "[1]'"))) (m := cds "[1]'") (.c [91, 49, 93, 39]) (by decide +kernel)) (odd_con (by decide +kernel)) (.cons (TxE.eq (a := (tC (.str "True"))) (m := cds "True") (.c [84, 114, 117, 101]) (by decide +kernel)) (odd_con (by decide +kernel)) (.nil))))
theorem op_1 {σ : St} {H : Hp} {nm : List Nat} {y : Str} (h2 : σ[2]? = some (some (.str y))) (e2 : sgn y = nm) (g : nameS nm = true) (len : nm.length ≤ 8) : Txs 12 (tCons (tC (.str "")) (tCons (tVar 2) (tCons (tC (.str "0")) (tCons (tC (.str "//")) (tCons (tOp r_op_add_str (tOp r_op_add_str (tC (.str "/")) (tVar 2)) (tC (.str "/"))) (tCons (tC (.str "/A")) (tCons (tC (.str "/-1")) (tCons (tC (.str "/01")) (tCons (tC (.str "/abcdefghi")) (tCons (tOp r_op_add_str (tOp r_op_add_str (tC (.str "/")) (tVar 2)) (tC (.str " "))) (tCons (tOp r_op_add_str (tC (.str " /")) (tVar 2)) (tCons (tC (.str "/1.0")) tNil)))))))))))) σ H OddP :=
  .cons (TxE.eq (a := (tC (.str ""))) (m := cds "") (.c []) (by decide +kernel)) (oddp_con (by decide +kernel)) (.cons (.w h2 e2) (oddp_1 g) (.cons (TxE.eq (a := (tC (.str "0"))) (m := cds "0") (.c [48]) (by decide +kernel)) (oddp_con (by decide +kernel)) (.cons (TxE.eq (a := (tC (.str "//"))) (m := cds "//") (.c [47, 47]) (by decide +kernel)) (oddp_con (by decide +kernel)) (.cons (TxE.eq (a := (tOp r_op_add_str (tOp r_op_add_str (tC (.str "/")) (tVar 2)) (tC (.str "/")))) (m := 47 :: (nm ++ [47])) (.add (.add (.c [47]) (.w h2 e2) (by simp <;> lia)) (.c [47]) (by simp <;> lia)) (by simp [cds])) (oddp_2 g) (.cons (TxE.eq (a := (tC (.str "/A"))) (m := cds "/A") (.c [47, 65]) (by decide +kernel)) (oddp_con (by decide +kernel)) (.cons (TxE.eq (a := (tC (.str "/-1"))) (m := cds "/-1") (.c [47, 45, 49]) (by decide +kernel)) (oddp_con (by decide +kernel)) (.cons (TxE.eq (a := (tC (.str "/01"))) (m := cds "/01") (.c [47, 48, 49]) (by decide +kernel)) (oddp_con (by decide +kernel)) (.cons (TxE.eq (a := (tC (.str "/abcdefghi"))) (m := cds "/abcdefghi") (.c [47, 97, 98, 99, 100, 101, 102, 103, 104, 105]) (by decide +kernel)) (oddp_con (by decide +kernel)) (.cons (TxE.eq (a := (tOp r_op_add_str (tOp r_op_add_str (tC (.str "/")) (tVar 2)) (tC (.str " ")))) (m := 47 :: (nm ++ [32])) (.add (.add (.c [47]) (.w h2 e2) (by simp <;> lia)) (.c [32]) (by simp <;> lia)) (by simp [cds])) (oddp_3 g) (.cons (TxE.eq (a := (tOp r_op_add_str (tC (.str " /")) (tVar 2))) (m := 32 :: 47 :: nm) (.add (.c [32, 47]) (.w h2 e2) (by simp <;> lia)) (by simp [cds])) (oddp_4 g) (.cons (TxE.eq (a := (tC (.str "/1.0"))) (m := cds "/1.0") (.c [47, 49, 46, 48]) (by decide +kernel)) (oddp_con (by decide +kernel)) (.nil))))))))))))
theorem op_2 {σ : St} {H : Hp} {nm : List Nat} {y : Str} (h2 : σ[2]? = some (some (.str y))) (e2 : sgn y = nm) (g : nameS nm = true) (len : nm.length ≤ 8) : Txs 5 (tCons (tOp r_op_add_str (tC (.str "/")) (tOp r_op_mul_str (tC (.str "3")) (tC (.int 61)))) (tCons (tOp r_op_add_str (tOp r_op_add_str (tOp r_op_add_str (tC (.str "/")) (tVar 2)) (tC (.str "//"))) (tVar 2)) (tCons (tC (.str "/+1")) (tCons (tC (.str "/'a'")) (tCons (tOp r_op_add_str (tOp r_op_add_str (tC (.str "/")) (tVar 2)) (tC (.str "\n"))) tNil))))) σ H OddP :=
  .cons (TxE.eq (a := (tOp r_op_add_str (tC (.str "/")) (tOp r_op_mul_str (tC (.str "3")) (tC (.int 61))))) (m := cds "/3333333333333333333333333333333333333333333333333333333333333") (.add (.c [47]) (.mul (n := ((61 : Nat) : Int)) [51, 51, 51, 51, 51, 51, 51, 51, 51, 51, 51, 51, 51, 51, 51, 51, 51, 51, 51, 51, 51, 51, 51, 51, 51, 51, 51, 51, 51, 51, 51, 51, 51, 51, 51, 51, 51, 51, 51, 51, 51, 51, 51, 51, 51, 51, 51, 51, 51, 51, 51, 51, 51, 51, 51, 51, 51, 51, 51, 51, 51] mul_ok) (by simp <;> lia)) (by decide +kernel)) (oddp_con (by decide +kernel)) (.cons (TxE.eq (a := (tOp r_op_add_str (tOp r_op_add_str (tOp r_op_add_str (tC (.str "/")) (tVar 2)) (tC (.str "//"))) (tVar 2))) (m := 47 :: (nm ++ 47 :: 47 :: nm)) (.add (.add (.add (.c [47]) (.w h2 e2) (by simp <;> lia)) (.c [47, 47]) (by simp <;> lia)) (.w h2 e2) (by simp <;> lia)) (by simp [cds])) (oddp_5 g) (.cons (TxE.eq (a := (tC (.str "/+1"))) (m := cds "/+1") (.c [47, 43, 49]) (by decide +kernel)) (oddp_con (by decide +kernel)) (.cons (TxE.eq (a := (tC (.str "/'a'"))) (m := cds "/'a'") (.c [47, 39, 97, 39]) (by decide +kernel)) (oddp_con (by decide +kernel)) (.cons (TxE.eq (a := (tOp r_op_add_str (tOp r_op_add_str (tC (.str "/")) (tVar 2)) (tC (.str "\n")))) (m := 47 :: (nm ++ [10])) (.add (.add (.c [47]) (.w h2 e2) (by simp <;> lia)) (.c [10]) (by simp <;> lia)) (by simp [cds])) (oddp_6 g) (.nil)))))
theorem or_1 {σ : St} {H : Hp} {P : List Nat} {y : Str} (h2 : σ[2]? = some (some (.str y))) (e2 : sgn y = P) (g : Pa1 P) (len : P.length ≤ 9) : Txs 7 (tCons (tC (.str "")) (tCons (tC (.str "take")) (tCons (tOp r_op_add_str (tC (.str "take  ")) (tVar 2)) (tCons (tOp r_op_add_str (tC (.str "put ")) (tVar 2)) (tCons (tOp r_op_add_str (tOp r_op_add_str (tC (.str "Put ")) (tVar 2)) (tC (.str " 1"))) (tCons (tOp r_op_add_str (tC (.str "do ")) (tVar 2)) (tCons (tOp r_op_add_str (tOp r_op_add_str (tC (.str "has ")) (tVar 2)) (tC (.str " 1"))) tNil))))))) σ H OddR :=
  .cons (TxE.eq (a := (tC (.str ""))) (m := []) (.c []) (by decide +kernel)) (oddr_0) (.cons (TxE.eq (a := (tC (.str "take"))) (m := cds "take") (.c [116, 97, 107, 101]) (by decide +kernel)) (oddr_1) (.cons (TxE.eq (a := (tOp r_op_add_str (tC (.str "take  ")) (tVar 2))) (m := cds "take" ++ 32 :: 32 :: P) (.add (.c [116, 97, 107, 101, 32, 32]) (.w h2 e2) (by simp <;> lia)) (by simp [cds])) (oddr_2 g) (.cons (TxE.eq (a := (tOp r_op_add_str (tC (.str "put ")) (tVar 2))) (m := cds "put" ++ 32 :: P) (.add (.c [112, 117, 116, 32]) (.w h2 e2) (by simp <;> lia)) (by simp [cds])) (oddr_3 g) (.cons (TxE.eq (a := (tOp r_op_add_str (tOp r_op_add_str (tC (.str "Put ")) (tVar 2)) (tC (.str " 1")))) (m := cds "Put" ++ 32 :: (P ++ [32, 49])) (.add (.add (.c [80, 117, 116, 32]) (.w h2 e2) (by simp <;> lia)) (.c [32, 49]) (by simp <;> lia)) (by simp [cds])) (oddr_4 g) (.cons (TxE.eq (a := (tOp r_op_add_str (tC (.str "do ")) (tVar 2))) (m := cds "do" ++ 32 :: P) (.add (.c [100, 111, 32]) (.w h2 e2) (by simp <;> lia)) (by simp [cds])) (oddr_5 g) (.cons (TxE.eq (a := (tOp r_op_add_str (tOp r_op_add_str (tC (.str "has ")) (tVar 2)) (tC (.str " 1")))) (m := cds "has" ++ 32 :: (P ++ [32, 49])) (.add (.add (.c [104, 97, 115, 32]) (.w h2 e2) (by simp <;> lia)) (.c [32, 49]) (by simp <;> lia)) (by simp [cds])) (oddr_6 g) (.nil)))))))
theorem or_2 {σ : St} {H : Hp} {P : List Nat} {y : Str} (h2 : σ[2]? = some (some (.str y))) (e2 : sgn y = P) (g : Pa1 P) (len : P.length ≤ 9) : Txs 4 (tCons (tOp r_op_add_str (tC (.str "is ")) (tVar 2)) (tCons (tOp r_op_add_str (tOp r_op_add_str (tC (.str "is ")) (tVar 2)) (tC (.str " text"))) (tCons (tOp r_op_add_str (tC (.str "move ")) (tVar 2)) (tCons (tOp r_op_add_str (tOp r_op_add_str (tC (.str "take ")) (tVar 2)) (tC (.str ";"))) tNil)))) σ H OddR :=
  .cons (TxE.eq (a := (tOp r_op_add_str (tC (.str "is ")) (tVar 2))) (m := cds "is" ++ 32 :: P) (.add (.c [105, 115, 32]) (.w h2 e2) (by simp <;> lia)) (by simp [cds])) (oddr_7 g) (.cons (TxE.eq (a := (tOp r_op_add_str (tOp r_op_add_str (tC (.str "is ")) (tVar 2)) (tC (.str " text")))) (m := cds "is" ++ 32 :: (P ++ 32 :: cds "text")) (.add (.add (.c [105, 115, 32]) (.w h2 e2) (by simp <;> lia)) (.c [32, 116, 101, 120, 116]) (by simp <;> lia)) (by simp [cds])) (oddr_8 g) (.cons (TxE.eq (a := (tOp r_op_add_str (tC (.str "move ")) (tVar 2))) (m := cds "move" ++ 32 :: P) (.add (.c [109, 111, 118, 101, 32]) (.w h2 e2) (by simp <;> lia)) (by simp [cds])) (oddr_9 g) (.cons (TxE.eq (a := (tOp r_op_add_str (tOp r_op_add_str (tC (.str "take ")) (tVar 2)) (tC (.str ";")))) (m := cds "take" ++ 32 :: (P ++ [59])) (.add (.add (.c [116, 97, 107, 101, 32]) (.w h2 e2) (by simp <;> lia)) (.c [59]) (by simp <;> lia)) (by simp [cds])) (oddr_10 g) (.nil))))
theorem or_3 {σ : St} {H : Hp} {P : List Nat} {y : Str} (h2 : σ[2]? = some (some (.str y))) (e2 : sgn y = P) (g : Pa1 P) (len : P.length ≤ 9) {O : List Nat} {z : Str} (h3 : σ[3]? = some (some (.str z))) (e3 : sgn z = O) (go : OddT O) (lo : O.length ≤ 120) {W : List Nat} {x : Str} (h5 : σ[5]? = some (some (.str x))) (e5 : sgn x = W) (gw : OddP W) (lw : W.length ≤ 70) : Txs 3 (tCons (tOp r_op_add_str (tOp r_op_add_str (tOp r_op_add_str (tC (.str "put ")) (tVar 2)) (tC (.str " "))) (tVar 3)) (tCons (tOp r_op_add_str (tOp r_op_add_str (tOp r_op_add_str (tC (.str "ask ")) (tVar 2)) (tC (.str " "))) (tVar 3)) (tCons (tOp r_op_add_str (tOp r_op_add_str (tC (.str "change ")) (tVar 5)) (tC (.str " 1"))) tNil))) σ H OddR :=
  .cons (TxE.eq (a := (tOp r_op_add_str (tOp r_op_add_str (tOp r_op_add_str (tC (.str "put ")) (tVar 2)) (tC (.str " "))) (tVar 3))) (m := cds "put" ++ 32 :: (P ++ 32 :: O)) (.add (.add (.add (.c [112, 117, 116, 32]) (.w h2 e2) (by simp <;> lia)) (.c [32]) (by simp <;> lia)) (.w h3 e3) (by simp <;> lia)) (by simp [cds])) (oddr_12 g go) (.cons (TxE.eq (a := (tOp r_op_add_str (tOp r_op_add_str (tOp r_op_add_str (tC (.str "ask ")) (tVar 2)) (tC (.str " "))) (tVar 3))) (m := cds "ask" ++ 32 :: (P ++ 32 :: O)) (.add (.add (.add (.c [97, 115, 107, 32]) (.w h2 e2) (by simp <;> lia)) (.c [32]) (by simp <;> lia)) (.w h3 e3) (by simp <;> lia)) (by simp [cds])) (oddr_13 g go) (.cons (TxE.eq (a := (tOp r_op_add_str (tOp r_op_add_str (tC (.str "change ")) (tVar 5)) (tC (.str " 1")))) (m := cds "change" ++ 32 :: (W ++ [32, 49])) (.add (.add (.c [99, 104, 97, 110, 103, 101, 32]) (.w h5 e5) (by simp <;> lia)) (.c [32, 49]) (by simp <;> lia)) (by simp [cds])) (oddr_14 gw) (.nil)))
theorem or_4 {σ : St} {H : Hp} {P : List Nat} {y : Str} (h2 : σ[2]? = some (some (.str y))) (e2 : sgn y = P) (g : Pa1 P) (len : P.length ≤ 9) {W : List Nat} {x : Str} (h5 : σ[5]? = some (some (.str x))) (e5 : sgn x = W) (gw : OddP W) (lw : W.length ≤ 70) : Txs 4 (tCons (tOp r_op_add_str (tC (.str "lacks ")) (tVar 5)) (tCons (tOp r_op_add_str (tOp r_op_add_str (tC (.str "is ")) (tVar 2)) (tC (.str " row "))) (tCons (tOp r_op_add_str (tC (.str " take ")) (tVar 2)) (tCons (tOp r_op_add_str (tOp r_op_add_str (tC (.str "move ")) (tVar 2)) (tC (.str " 0"))) tNil)))) σ H OddR :=
  .cons (TxE.eq (a := (tOp r_op_add_str (tC (.str "lacks ")) (tVar 5))) (m := cds "lacks" ++ 32 :: W) (.add (.c [108, 97, 99, 107, 115, 32]) (.w h5 e5) (by simp <;> lia)) (by simp [cds])) (oddr_15 gw) (.cons (TxE.eq (a := (tOp r_op_add_str (tOp r_op_add_str (tC (.str "is ")) (tVar 2)) (tC (.str " row ")))) (m := cds "is" ++ 32 :: (P ++ 32 :: cds "row ")) (.add (.add (.c [105, 115, 32]) (.w h2 e2) (by simp <;> lia)) (.c [32, 114, 111, 119, 32]) (by simp <;> lia)) (by simp [cds])) (oddr_16 g) (.cons (TxE.eq (a := (tOp r_op_add_str (tC (.str " take ")) (tVar 2))) (m := 32 :: (cds "take" ++ 32 :: P)) (.add (.c [32, 116, 97, 107, 101, 32]) (.w h2 e2) (by simp <;> lia)) (by simp [cds])) (oddr_17 g) (.cons (TxE.eq (a := (tOp r_op_add_str (tOp r_op_add_str (tC (.str "move ")) (tVar 2)) (tC (.str " 0")))) (m := cds "move" ++ 32 :: (P ++ 32 :: [48])) (.add (.add (.c [109, 111, 118, 101, 32]) (.w h2 e2) (by simp <;> lia)) (.c [32, 48]) (by simp <;> lia)) (by simp [cds])) (oddr_18 g) (.nil))))
theorem or_5 {σ : St} {H : Hp} {P : List Nat} {y : Str} (h2 : σ[2]? = some (some (.str y))) (e2 : sgn y = P) (g : Pa1 P) (len : P.length ≤ 9) : TxE (tOp r_op_add_str (tOp r_op_add_str (tOp r_op_add_str (tOp r_op_add_str (tOp r_op_add_str (tC (.str "copy ")) (tVar 2)) (tC (.str " "))) (tVar 2)) (tC (.str " "))) (tVar 2)) σ H (cds "copy" ++ 32 :: (P ++ 32 :: (P ++ 32 :: P))) := TxE.eq (.add (.add (.add (.add (.add (.c [99, 111, 112, 121, 32]) (.w h2 e2) (by simp <;> lia)) (.c [32]) (by simp <;> lia)) (.w h2 e2) (by simp <;> lia)) (.c [32]) (by simp <;> lia)) (.w h2 e2) (by simp <;> lia)) (by simp [cds])
theorem gr_1 {σ : St} {H : Hp} {P : List Nat} {y : Str} (h2 : σ[2]? = some (some (.str y))) (e2 : sgn y = P) (g : Pa1 P) (len : P.length ≤ 9) : Txs 6 (tCons (tOp r_op_add_str (tC (.str "take ")) (tVar 2)) (tCons (tC (.str "has /")) (tCons (tOp r_op_add_str (tOp r_op_add_str (tC (.str "put ")) (tVar 2)) (tC (.str "/20 [1 'a']"))) (tCons (tC (.str "is / table")) (tCons (tOp r_op_add_str (tC (.str "copy / ")) (tVar 2)) (tCons (tC (.str "ask /0 {}")) tNil)))))) σ H GoodR :=
  .cons (TxE.eq (a := (tOp r_op_add_str (tC (.str "take ")) (tVar 2))) (m := cds "take" ++ 32 :: P) (.add (.c [116, 97, 107, 101, 32]) (.w h2 e2) (by simp <;> lia)) (by simp [cds])) (goodr_0 g) (.cons (TxE.eq (a := (tC (.str "has /"))) (m := cds "has /") (.c [104, 97, 115, 32, 47]) (by decide +kernel)) (goodr_1) (.cons (TxE.eq (a := (tOp r_op_add_str (tOp r_op_add_str (tC (.str "put ")) (tVar 2)) (tC (.str "/20 [1 'a']")))) (m := cds "put" ++ 32 :: (P ++ (cds "/20" ++ 32 :: cds "[1 'a']"))) (.add (.add (.c [112, 117, 116, 32]) (.w h2 e2) (by simp <;> lia)) (.c [47, 50, 48, 32, 91, 49, 32, 39, 97, 39, 93]) (by simp <;> lia)) (by simp [cds])) (goodr_2 g) (.cons (TxE.eq (a := (tC (.str "is / table"))) (m := cds "is / table") (.c [105, 115, 32, 47, 32, 116, 97, 98, 108, 101]) (by decide +kernel)) (goodr_3) (.cons (TxE.eq (a := (tOp r_op_add_str (tC (.str "copy / ")) (tVar 2))) (m := cds "copy" ++ 32 :: 47 :: 32 :: P) (.add (.c [99, 111, 112, 121, 32, 47, 32]) (.w h2 e2) (by simp <;> lia)) (by simp [cds])) (goodr_4 g) (.cons (TxE.eq (a := (tC (.str "ask /0 {}"))) (m := cds "ask /0 {}") (.c [97, 115, 107, 32, 47, 48, 32, 123, 125]) (by decide +kernel)) (goodr_5) (.nil))))))
theorem gt_1 {σ : St} {H : Hp} {nm : List Nat} {y : Str} (h4 : σ[4]? = some (some (.str y))) (e4 : sgn y = nm) (g : nameS nm = true) (len : nm.length ≤ 8) : Txs 6 (tCons (tC (.str "1")) (tCons (tC (.str "[]")) (tCons (tC (.str "{}")) (tCons (tC (.str "''")) (tCons (tC (.str "[1 'a']")) (tCons (tOp r_op_add_str (tOp r_op_add_str (tC (.str "{")) (tVar 4)) (tC (.str ":{}}"))) tNil)))))) σ H GoodT :=
  .cons (TxE.eq (a := (tC (.str "1"))) (m := cds "1") (.c [49]) (by decide +kernel)) (good_con (by decide +kernel)) (.cons (TxE.eq (a := (tC (.str "[]"))) (m := cds "[]") (.c [91, 93]) (by decide +kernel)) (good_con (by decide +kernel)) (.cons (TxE.eq (a := (tC (.str "{}"))) (m := cds "{}") (.c [123, 125]) (by decide +kernel)) (good_con (by decide +kernel)) (.cons (TxE.eq (a := (tC (.str "''"))) (m := cds "''") (.c [39, 39]) (by decide +kernel)) (good_con (by decide +kernel)) (.cons (TxE.eq (a := (tC (.str "[1 'a']"))) (m := cds "[1 'a']") (.c [91, 49, 32, 39, 97, 39, 93]) (by decide +kernel)) (good_con (by decide +kernel)) (.cons (TxE.eq (a := (tOp r_op_add_str (tOp r_op_add_str (tC (.str "{")) (tVar 4)) (tC (.str ":{}}")))) (m := 123 :: (nm ++ [58, 123, 125, 125])) (.add (.add (.c [123]) (.w h4 e4) (by simp <;> lia)) (.c [58, 123, 125, 125]) (by simp <;> lia)) (by simp [cds])) (good_nm g) (.nil))))))
theorem ot_2 {σ : St} {H : Hp} {O : List Nat} {z : Str} (h2 : σ[2]? = some (some (.str z))) (e2 : sgn z = O) (lo : O.length ≤ 70) : TxE (tOp r_op_add_str (tOp r_op_add_str (tC (.str "[")) (tVar 2)) (tC (.str "]"))) σ H (91 :: (O ++ [93])) := TxE.eq (.add (.add (.c [91]) (.w h2 e2) (by simp <;> lia)) (.c [93]) (by simp <;> lia)) (by simp [cds])
theorem ot_3 {σ : St} {H : Hp} {O nm : List Nat} {z y : Str} (h2 : σ[2]? = some (some (.str z))) (e2 : sgn z = O) (lo : O.length ≤ 70) (h4 : σ[4]? = some (some (.str y))) (e4 : sgn y = nm) (len : nm.length ≤ 8) : TxE (tOp r_op_add_str (tOp r_op_add_str (tOp r_op_add_str (tOp r_op_add_str (tC (.str "{")) (tVar 4)) (tC (.str ":[5 "))) (tVar 2)) (tC (.str "]}"))) σ H (123 :: (nm ++ (58 :: 91 :: 53 :: 32 :: (O ++ [93, 125])))) := TxE.eq (.add (.add (.add (.add (.c [123]) (.w h4 e4) (by simp <;> lia)) (.c [58, 91, 53, 32]) (by simp <;> lia)) (.w h2 e2) (by simp <;> lia)) (.c [93, 125]) (by simp <;> lia)) (by simp [cds])
theorem od_5 {K : PySem.W.Frag} {σ : St} {H : Hp} {p : Addr} {xs : List V} {x0 x1 : Str} {m0 m1 : List Nat} (h3 : σ[3]? = some (some (.ref p))) (hp : H p = some (.lst xs)) (a0 : atI xs 0 = some (.str x0)) (a1 : atI xs 1 = some (.str x1)) (e0 : sgn x0 = m0) (e1 : sgn x1 = m1) (l0 : m0.length ≤ 8) (l1 : m1.length ≤ 8) :
    TxE (tOp r_op_add_str (tOp r_op_add_str (tOp r_op_add_str (tOp r_op_add_str (tC (.str "{")) (tOp (rIxL K) (tVar 3) (tC (.int 1)))) (tC (.str ":1 "))) (tOp (rIxL K) (tVar 3) (tC (.int 0)))) (tC (.str ":2}"))) σ H (123 :: (m1 ++ 58 :: 49 :: 32 :: (m0 ++ [58, 50, 125]))) :=
  TxE.eq (.add (.add (.add (.add (.c [123]) (.ix h3 hp a1 e1) (by simp <;> lia)) (.c [58, 49, 32]) (by simp <;> lia)) (.ix h3 hp a0 e0) (by simp <;> lia)) (.c [58, 50, 125]) (by simp <;> lia)) (by simp)
theorem TxE.app {K : PySem.W.Frag} {te : TE} {σ : St} {H : Hp} {l : List Nat} {P : List Nat → Prop} {i : Nat} {L : Addr} {rs : List Str} {Q : VK} (h : TxE te σ H l) (p : P l) (hi : σ[i]? = some (some (.ref L))) (hL : H L = some (.lst (rs.map V.str))) (hr : ∀ s ∈ rs, P (sgn s)) (hn : rs.length < 1000)
    (k : ∀ ss : List Str, ss.length = rs.length + 1 → (∀ s ∈ ss, P (sgn s)) → Q .non (upd H L (.lst (ss.map V.str)))) : tBM K "list" rAppend (tVar i) (tCons te tNil) σ H Q :=
  ⟨_, hi, .inl ⟨rfl, _, SqL.of hL⟩, h _ fun s es => ⟨L, _, _, rfl, rfl, hL, by rw [List.length_map]; exact Nat.lt_of_lt_of_le hn (by decide), by
    have := k (rs ++ [s]) (by simp) fun z hz => (List.mem_append.mp hz).elim (hr z) fun hz => by rw [List.mem_singleton.mp hz, es]; exact p
    rw [List.map_append] at this
    exact this⟩⟩
theorem gt_2 {σ : St} {H : Hp} {g : List Nat} {y : Str} (h5 : σ[5]? = some (some (.str y))) (e5 : sgn y = g) (gg : GoodT g) (len : g.length ≤ 14) :
    Txs 6 (tCons (tOp r_op_add_str (tVar 5) (tC (.str " "))) (tCons (tOp r_op_add_str (tC (.str " ")) (tVar 5)) (tCons (tOp r_op_add_str (tVar 5) (tC (.str ";"))) (tCons (tOp r_op_add_str (tVar 5) (tC (.str "\n"))) (tCons (tOp r_op_add_str (tVar 5) (tOp r_op_mul_str (tSl rSlS (tVar 5) (tPart (tUn (rU fun i => V.int (-i)) (tC (V.int 1)))) tNoPart) (tC (V.int 70)))) (tCons (tC (.str "")) tNil)))))) σ H OddT := by
  have sp : OddT (g ++ [32]) := ⟨gg.sp, by simp; lia, .inl (by simp [gg.semi])⟩
  have fr : OddT ([32] ++ g) := ⟨gg.fr, by simp; lia, .inl (by simp [gg.semi])⟩
  have se : OddT (g ++ [59]) := ⟨gg.se, by simp; lia, .inr ⟨g, rfl, gg.semi⟩⟩
  have nl : OddT (g ++ [10]) := ⟨gg.nl, by simp; lia, .inl (by simp [gg.semi])⟩
  obtain ⟨g', c, eg⟩ : ∃ g' c, g = g' ++ [c] := ⟨g.dropLast, g.getLast gg.ne, (List.dropLast_concat_getLast gg.ne).symm⟩
  have ld : g.getLastD 0 = c := by rw [eg]; simp
  have rp : OddT (g ++ List.replicate 70 c) := ⟨by rw [← ld]; exact gg.rep, by simp; lia, .inl (by
    have hc : c ≠ 59 := fun z => gg.semi (by rw [eg, z]; simp)
    simp [gg.semi, List.mem_replicate, Ne.symm hc])⟩
  have em : OddT [] := ⟨R_no (by decide +kernel) _, by decide, .inl (by simp)⟩
  have cut : sgn (Txt.slice y (some (-1)) none) = [c] := by
    rw [sgn_slice, e5, eg]
    exact cut_last
  have rep : TxE (tOp r_op_mul_str (tSl rSlS (tVar 5) (tPart (tUn (rU fun i => V.int (-i)) (tC (V.int 1)))) tNoPart) (tC (V.int 70))) σ H (List.replicate 70 c) := fun Q k =>
    ⟨_, h5, 1, rfl, -1, rfl, y, rfl, by rw [str_len, e5]; exact Nat.le_trans len (by decide), Txt.slice y (some (-1)) none, ((70 : Nat) : Int), rfl, rfl, mul_ok1 (by rw [str_len, cut]; rfl) (by decide), k _ (by rw [str_one cut]; exact mul_one (by decide))⟩
  exact .cons (.add (.w h5 e5) (.c [32]) (by simp; lia)) sp (.cons (.add (.c [32]) (.w h5 e5) (by simp; lia)) fr (.cons (.add (.w h5 e5) (.c [59]) (by simp; lia)) se (.cons (.add (.w h5 e5) (.c [10]) (by simp; lia)) nl (.cons (.add (.w h5 e5) rep (by simp; lia)) rp (.cons (.c []) em .nil)))))
end L2

set_option Elab.async false
set_option linter.all false
set_option maxRecDepth 100000
set_option maxHeartbeats 4000000
namespace L2
open PySem PySem.Spec PyProof.Rows
theorem comp_txt {te : TE} {fs : List Nat} {σ : St} {H : Hp} {Q : VK} {n : Nat} {P : List Nat → Prop} (hn : n ≤ 1000) (he : ∀ (i : Nat) H2, i < n → Same H H2 → ∀ R : VK, (∀ s, P (sgn s) → R (.str s) H2) → te (some (.int (0 + (i : Int))) :: pickS σ fs) H2 R)
    (q : ∀ (D : Addr) (ss : List Str) H', H D = none → Same H H' → H' D = some (.lst (ss.map V.str)) → ss.length = n → (∀ s ∈ ss, P (sgn s)) → Q (.ref D) H') : CompRd (Itr 0 n) tYes te fs σ H Q := by
  intro D hD
  refine ⟨fun i m H2 => m = n - i ∧ i ≤ n ∧ Same H H2 ∧ ∃ ss : List Str, H2 D = some (.lst (ss.map V.str)) ∧ ss.length = i ∧ ∀ s ∈ ss, P (sgn s), ⟨n, rfl, Nat.zero_le _, Same.new hD, [], upd_same, rfl, fun s hs => nomatch hs⟩, ?_⟩
  rintro i m H2 ⟨rfl, hi, s2, ss, d2, ls, hs⟩
  by_cases hlt : i < n
  · refine .inr ⟨hlt, fun v H3 yl => ?_⟩
    obtain ⟨rfl, rfl⟩ := yl
    refine he i H3 hlt s2 _ fun s ps => ⟨ss.map V.str, d2, by rw [List.length_map, ls]; exact small1000 (Nat.le_trans hi hn), n - (i + 1), by lia, rfl, hlt, s2.put hD, ss ++ [s], by rw [upd_same, List.map_append]; rfl, by simp [ls], fun z hz => ?_⟩
    rcases List.mem_append.mp hz with h | h
    · exact hs z h
    · rw [List.mem_singleton.mp h]; exact ps
  · exact .inl ⟨Nat.le_of_not_lt hlt, q D ss H2 hD s2 d2 (by lia) hs⟩
theorem cutT_to {l : List Str} {i : Nat} (h : i ≤ l.length) : cutV (l.map V.str) none (some (i : Int)) = (l.take i).map V.str := by
  unfold cutV
  have e0 : HT.sIx (l.map V.str).length 0 none = 0 := rfl
  rw [HT.sIx_nat, e0, List.length_map, Nat.min_eq_left h, List.drop_zero, Nat.sub_zero, List.map_take]
theorem cutT_from {l : List Str} {i : Nat} (h : i ≤ l.length) : cutV (l.map V.str) (some (i : Int)) none = (l.drop i).map V.str := by
  unfold cutV
  have e0 : HT.sIx (l.map V.str).length (l.map V.str).length none = (l.map V.str).length := rfl
  rw [HT.sIx_nat, e0, List.length_map, Nat.min_eq_left h, List.map_drop, List.take_of_length_le (by rw [List.length_drop, List.length_map]; exact Nat.le_refl _)]
structure FrL (l : List Nat) : Prop where
  len : l.length ≤ 160
  fr : fr2 l = true
theorem GoodR.fl {l : List Nat} (h : GoodR l) : FrL l := ⟨h.len, h.fr⟩
theorem OddR.fl {l : List Nat} (h : OddR l) : FrL l := ⟨h.len, h.fr⟩
theorem join_le {y : Str} {B : Nat} : ∀ {ps : List Str}, (∀ p ∈ ps, p.length ≤ B) → (Str.join y ps).length ≤ ps.length * (B + y.length)
  | [], _ => Nat.zero_le _
  | [p], h => by
    rw [join_one]
    have := h p List.mem_cons_self
    simp; lia
  | p :: q :: r, h => by
    have h1 := h p List.mem_cons_self
    have ih := join_le (y := y) (ps := q :: r) fun z hz => h z (List.mem_cons_of_mem _ hz)
    rw [join_two, app_len, app_len, List.length_cons (as := q :: r), Nat.succ_mul]
    lia
theorem sum_le' {B : Nat} : ∀ {ps : List Str}, (∀ p ∈ ps, p.length ≤ B) → (ps.map (·.length)).sum ≤ ps.length * B
  | [], _ => Nat.zero_le _
  | p :: r, h => by
    have h1 := h p List.mem_cons_self
    have ih := sum_le' (ps := r) fun z hz => h z (List.mem_cons_of_mem _ hz)
    rw [List.map_cons, List.sum_cons, List.length_cons, Nat.succ_mul]
    lia
structure RowsTx (ps : List Str) (i : Nat) : Prop where
  sum : (ps.map (·.length)).sum + ps.length * ("; " : Str).length ≤ 16777216
  len : (Txt.join "; " ps).length ≤ 1000
  ne : Txt.join "; " ps ≠ ""
  bad : badAt (Txt.split (Txt.join "; " ps) "; ") 0 = some i
theorem rows_text {gs bs : List Str} {o : Str} {i : Nat} (hg : ∀ g ∈ gs, GoodR (sgn g)) (hb : ∀ b ∈ bs, FrL (sgn b)) (ho : OddR (sgn o)) (la : i ≤ gs.length) (n : gs.length ≤ 4) (nb : bs.length ≤ 1) (ne : gs ++ bs = [] → o ≠ "") : RowsTx ((gs ++ bs).take i ++ [o] ++ (gs ++ bs).drop i) i := by
  have all : ∀ p ∈ (gs ++ bs).take i ++ [o] ++ (gs ++ bs).drop i, FrL (sgn p) := fun p hp => by
    have hr : ∀ z ∈ gs ++ bs, FrL (sgn z) := fun z hz => (List.mem_append.mp hz).elim (fun h => (hg z h).fl) (hb z)
    rcases List.mem_append.mp hp with hp | hp
    · rcases List.mem_append.mp hp with hp | hp
      · exact hr p (List.mem_of_mem_take hp)
      · rw [List.mem_singleton.mp hp]; exact ho.fl
    · exact hr p (List.mem_of_mem_drop hp)
  have lp : ((gs ++ bs).take i ++ [o] ++ (gs ++ bs).drop i).length = (gs ++ bs).length + 1 := by
    rw [List.length_append, List.length_append, List.length_take, List.length_drop, List.length_singleton]
    lia
  have l6 : ((gs ++ bs).take i ++ [o] ++ (gs ++ bs).drop i).length ≤ 6 := by
    rw [lp, List.length_append]; lia
  have len : ∀ p ∈ (gs ++ bs).take i ++ [o] ++ (gs ++ bs).drop i, p.length ≤ 160 := fun p hp => by rw [str_len]; exact (all p hp).len
  have ej : Txt.join "; " ((gs ++ bs).take i ++ [o] ++ (gs ++ bs).drop i) = Str.join sep2 ((gs ++ bs).take i ++ [o] ++ (gs ++ bs).drop i) := StrLaws.glued_eq_join _ _
  have tl : ((gs ++ bs).take i).length = i := by rw [List.length_take, List.length_append]; lia
  have e2 : ("; " : Str).length = 2 := by decide +kernel
  refine ⟨?_, ?_, ?_, ?_⟩
  · have := sum_le' len
    rw [e2]; lia
  · rw [ej]
    have := join_le (y := sep2) len
    have e : sep2.length = 2 := by decide +kernel
    rw [e] at this
    lia
  · rw [ej]
    intro z
    have lz := congrArg Str.length z
    have e : ("" : Str).length = 0 := by decide +kernel
    rw [e] at lz
    by_cases h0 : gs ++ bs = []
    · rw [h0] at z
      have : ([] : List Str).take i ++ [o] ++ ([] : List Str).drop i = [o] := by simp
      rw [this, join_one] at z
      exact ne h0 z
    · have h1 : 1 ≤ (gs ++ bs).length := Nat.pos_of_ne_zero fun z => h0 (List.length_eq_zero_iff.mp z)
      have := parts_len (y := sep2) (by decide) (ps := (gs ++ bs).take i ++ [o] ++ (gs ++ bs).drop i)
      rw [lz, lp] at this
      lia
  · rw [ej]
    show badAt (Txt.split (Str.join sep2 _) sep2) 0 = some i
    rw [split_join (by simp) fun p hp => (all p hp).fr, List.append_assoc]
    have := bad_at (gs := (gs ++ bs).take i) (o := o) (r := (gs ++ bs).drop i) (i := 0) (fun g hg' => by
      rw [List.take_append_of_le_length la] at hg'
      exact (hg g (List.mem_of_mem_take hg')).ok) ho.no
    rw [tl, Nat.zero_add] at this
    exact this
theorem rows_emp : ("; " : Str).length ≤ 1000 ∧ ("; " : Str) ≠ "" ∧ badAt (Txt.split "; " "; ") 0 = some 0 := by
  refine ⟨by decide +kernel, fun z => absurd (congrArg Str.length z) (by decide +kernel), ?_⟩
  have e : ("; " : Str) = Str.join sep2 [("" : Str), ""] := by decide +kernel
  have h := split_join (ps := [("" : Str), ""]) (by simp) (fun p hp => by
    have : p = "" := by simpa using hp
    rw [this]; decide +kernel)
  rw [← e] at h
  have h : Txt.split "; " "; " = [("" : Str), ""] := h
  rw [h]
  exact bad_at (gs := []) (o := "") (r := [""]) (i := 0) (fun g hg => nomatch hg) (by decide +kernel)
end L2

set_option Elab.async false
set_option linter.all false
set_option maxRecDepth 100000
set_option maxHeartbeats 4000000
namespace L2
open PySem PySem.Spec PyProof.Rows
section
variable {K : PySem.W.Frag} {σ : St} {H : Hp} {p : Addr} {xs : List V} {y : Str} {nm : List Nat}
theorem lw_far (h1 : σ[1]? = some (some (.ref p))) (hp : H p = some (.lst xs)) (a0 : atI xs 0 = some (.str y)) (e : sgn y = nm) (l : nm.length ≤ 8) :
    TxE (tOp r_op_add_str (tOp r_op_add_str (tOp r_op_add_str (tOp r_op_add_str (tOp r_op_mul_str (tC (.str "[")) (tC (.int 99))) (tC (.str "{"))) (tOp (rIxL K) (tVar 1) (tC (.int 0)))) (tC (.str ":{}}"))) (tOp r_op_mul_str (tC (.str "]")) (tC (.int 99)))) σ H (List.replicate 99 91 ++ 123 :: (nm ++ 58 :: 123 :: (125 :: 125 :: List.replicate 99 93))) :=
  TxE.eq (.add (.add (.add (.add (.mul (n := ((99 : Nat) : Int)) (List.replicate 99 91) mul_ok) (.c [123]) (by simp)) (.ix h1 hp a0 e) (by simp; lia)) (.c [58, 123, 125, 125]) (by simp; lia)) (.mul (n := ((99 : Nat) : Int)) (List.replicate 99 93) mul_ok) (by simp; lia)) (by simp only [List.append_assoc]; rfl)
theorem lw_deep : TxE (tOp r_op_add_str (tOp r_op_add_str (tOp r_op_mul_str (tC (.str "[")) (tC (.int 99))) (tC (.str "1"))) (tOp r_op_mul_str (tC (.str "]")) (tC (.int 99)))) σ H (nest 99) :=
  TxE.eq (.add (.add (.mul (n := ((99 : Nat) : Int)) (List.replicate 99 91) mul_ok) (.c [49]) (by simp)) (.mul (n := ((99 : Nat) : Int)) (List.replicate 99 93) mul_ok) (by simp)) (by decide +kernel)
theorem lw_deep2 {z : Str} (h9 : σ[9]? = some (some (.str z))) (e : sgn z = nest 99) : TxE (tOp r_op_add_str (tOp r_op_add_str (tC (.str "[")) (tVar 9)) (tC (.str "]"))) σ H (91 :: (nest 99 ++ [93])) :=
  TxE.eq (.add (.add (.c [91]) (.w h9 e) (by decide +kernel)) (.c [93]) (by decide +kernel)) (by rfl)
theorem lw_open : TxE (tOp r_op_mul_str (tC (.str "[")) (tC (.int 200))) σ H (List.replicate 200 91) := .mul (n := ((200 : Nat) : Int)) _ mul_ok
theorem lw_path (h1 : σ[1]? = some (some (.ref p))) (hp : H p = some (.lst xs)) (a0 : atI xs 1 = some (.str y)) (e : sgn y = nm) (l : nm.length ≤ 8) :
    TxE (tOp r_op_add_str (tOp r_op_add_str (tC (.str "/")) (tOp (rIxL K) (tVar 1) (tC (.int 1)))) (tC (.str "/0"))) σ H (47 :: (nm ++ [47, 48])) :=
  TxE.eq (.add (.add (.c [47]) (.ix h1 hp a0 e) (by simp; lia)) (.c [47, 48]) (by simp; lia)) (by simp)
end
theorem path_two {x y : Str} (h : nameS (sgn y) = true) (e : sgn x = 47 :: (sgn y ++ [47, 48])) : pathV x = some [.str y, .int 0] := by
  unfold pathV
  rw [if_pos (by rw [e]; rfl), if_neg]
  · have e2 : sgn (Txt.slice x (some 1) none) = sgn y ++ [47, 48] := by rw [sgn_slice, cut_rest, e]; rfl
    have sp : Txt.split (Txt.slice x (some 1) none) "/" = [y, ("0" : Str)] := by
      refine map_inj ?_
      have := split_one (Txt.slice x (some 1) none) 47
      rw [e2, spl1_go (no_c h (by decide))] at this
      refine Eq.trans this ?_
      have e0 : sgn ("0" : Str) = [48] := by decide +kernel
      show sgn y :: spl1 47 [48] = [sgn y, sgn ("0" : Str)]
      rw [e0]
      rfl
    rw [sp]
    have s1 : stepS y = some (.str y) := if_pos h
    have s2 : stepS ("0" : Str) = some (.int 0) := by decide +kernel
    show (stepS y).bind (fun v => ((stepS ("0" : Str)).bind fun v => ((some []).map (v :: ·))).map (v :: ·)) = _
    rw [s1, s2]
    rfl
  · intro z
    have := congrArg sgn z
    rw [e] at this
    have e1 : sgn "/" = [47] := by decide +kernel
    rw [e1] at this
    have := congrArg List.length this
    simp at this
theorem nm_at {ys : List Str} (ly : ys.length = 6) (ny : ∀ y ∈ ys, nameB y = true) : ∃ y0 y1, atI (ys.map V.str) 0 = some (.str y0) ∧ atI (ys.map V.str) 1 = some (.str y1) ∧ nameS (sgn y0) = true ∧ nameS (sgn y1) = true := by
  match ys, ly with
  | y0 :: y1 :: r, _ => exact ⟨y0, y1, at0, at1, ny y0 List.mem_cons_self, ny y1 (List.mem_cons_of_mem _ List.mem_cons_self)⟩
theorem far_len {far : Str} {nm : List Nat} (ef : sgn far = List.replicate 99 91 ++ 123 :: (nm ++ 58 :: 123 :: (125 :: 125 :: List.replicate 99 93))) (l : nm.length ≤ 8) : far.length ≤ 1000 := by
  rw [str_len, ef, List.length_append, List.length_replicate, List.length_cons, List.length_append, List.length_cons, List.length_cons, List.length_cons, List.length_cons, List.length_replicate]
  lia
theorem cell_at {a : Addr} {i : Nat} : [V.ref a, V.int (1 + (0 + (i : Int)))] ++ [] = [V.ref a, V.int ((1 + i : Nat) : Int)] := by
  rw [Int.zero_add, List.append_nil]
  have : ((1 + i : Nat) : Int) = 1 + (i : Int) := by lia
  rw [this]
section
variable {tc : TT} {te : TE} {t u tb : TS} {D : Ends} {σ : St} {H : Hp} {R : Bool → Hp → Prop} {sp : Sp} {E : XK} {Q : VK}
theorem si (h : tc σ H fun b H1 => if b = true then t { D with nx := tb D } σ H1 else u { D with nx := tb D } σ H1) : tSeq (tIfS tc t u) tb D σ H := h
theorem tst (h : te σ H fun x H' => BlQ x H' R) : tTest te σ H R := h
theorem cl2 {v : V} (h : te σ H fun x H1 => sp [v, x] H1 Q E) : tCall sp [] E (tCons (tC v) (tCons te tNil)) σ H Q := h
theorem cl1 (h : te σ H fun x H1 => sp [x] H1 Q E) : tCall sp [] E (tCons te tNil) σ H Q := h
end
inductive NoS (H : Hp) (v : V) : Prop
  | mk (T : String) (t : TyN H v T) (n : isiB T "str" = false)
theorem flat_two {y : Str} : ∀ z ∈ [V.str y, V.int 0], flatV z = true := fun z hz => by
  rcases List.mem_cons.mp hz with rfl | hz
  · rfl
  · rw [List.mem_singleton.mp hz]; rfl
theorem path_len {x : Str} {nm : List Nat} (e : sgn x = 47 :: (nm ++ [47, 48])) (l : nm.length ≤ 8) : x.length ≤ 1000 := by
  rw [str_len, e]
  simp; lia
theorem way_at {j : Nat} {v : V} : [V.int (0 + (j : Int)), v] ++ [] = [V.int (j : Int), v] := by rw [Int.zero_add]; rfl
def rdB (K : PySem.W.Frag) (C fI fE fP fR : Addr) : Bool :=
  PySem.W.makesIn K C && (PySem.W.findIn K (.ref C) "__init__" == some (some (.ref fI)) && (PySem.W.isFn K (.ref fI) && (PySem.W.keepIn K (.ref C) && (PySem.W.findIn K (.ref C) "ended" == some (some (.ref fE)) && (PySem.W.isFn K (.ref fE) && (PySem.W.keepIn K (.ref fE) &&
  (PySem.W.findIn K (.ref C) "passes" == some (some (.ref fP)) && (PySem.W.isFn K (.ref fP) && (PySem.W.keepIn K (.ref fP) && (PySem.W.findIn K (.ref C) "run_of" == some (some (.ref fR)) && (PySem.W.isFn K (.ref fR) && (PySem.W.keepIn K (.ref fR) &&
  (PySem.W.plainGet K C Str.empty && (PySem.W.hasDictIn K C && (PySem.W.plainOver K C && (PySem.W.findIn K (.ref C) "__setattr__" == some (some (.builtin "object.__setattr__")) && (PySem.W.findIn K (.ref C) "text" == some none && PySem.W.findIn K (.ref C) "place" == some none)))))))))))))))))
structure RkK (K : PySem.W.Frag) (C fI fE fP fR : Addr) : Prop where
  M : Mk K C fI
  mE : Meth K C "ended" fE
  mP : Meth K C "passes" fP
  mR : Meth K C "run_of" fR
  c : Cls K C
  nT : NoAttr K C "text"
  nP : NoAttr K C "place"
theorem RkK.of {K : PySem.W.Frag} {C fI fE fP fR : Addr} (h : rdB K C fI fE fP fR = true) : RkK K C fI fE fP fR := by
  simp only [rdB, Bool.and_eq_true, beq_iff_eq] at h
  obtain ⟨h1, h2, h3, h4, h5, h6, h7, h8, h9, h10, h11, h12, h13, h14, h15, h16, h17, h18, h19⟩ := h
  exact ⟨⟨h1, h2, h3, h4⟩, ⟨h5, h6, h7⟩, ⟨h8, h9, h10⟩, ⟨h11, h12, h13⟩, ⟨h14, h15, h16, h17⟩, h18, h19⟩
end L2

set_option Elab.async false
set_option linter.all false
set_option maxRecDepth 100000
set_option maxHeartbeats 40000000
namespace L2
open PySem PySem.Spec PyProof.Rows
theorem Room.mm {j k : Nat} {A : Around} (r : Room k A) (h : j ≤ k := by first | decide | omega) : Room j A := r.mono h
theorem ps_se (i : Nat) {X : Cx} {x : Str} {e : Expr} {te : TE} {pos pos' : Pos} (hN : X.N.Nodup) (he : PE X e te) (hi : X.N[i]? = some x := by rfl) (hx : Loc X.env.scope x := by exact Or.inl rfl) (hs : swapsWith e (some (.Name x pos')) pos.line X.env = pure false := by rfl) (hf : X.fn x = true ∨ X.env.scope.names.lookup x = some .local := by first | exact .inl rfl | exact .inr rfl | assumption) :
    PS X (.Assign [.Name x pos'] e pos) (tAsg te (gName i)) := ps_set hN hi hx he hs hf
theorem line3 {x y z : V} : [x, y, z].length ≤ sizeLine := le_line (show 3 ≤ 1000 by decide)
theorem pg_na (i : Nat) {X : Cx} {x : Str} {pos : Pos} (hN : X.N.Nodup) (hi : X.N[i]? = some x := by rfl) (hx : Loc X.env.scope x := by exact Or.inl rfl) (hf : X.fn x = true ∨ X.env.scope.names.lookup x = some .local := by first | exact .inl rfl | exact .inr rfl | assumption) : PG X (.Name x pos) (gName i) := pg_name hN hi hx hf
end L2
namespace L2
open PySem PySem.Spec PyProof.Rows
section
variable {P : Program} {w : World} {K : PySem.W.Frag} {mg : Str → Option Value} {base : Heap}
theorem Fun.oq {x qual : Str} {st : Stmt} {f : Addr} {fd : FuncData} {ps : List Str} {k : Nat} {sp : Sp} (F : Fun K x qual st f fd) (N : List Str)
    (hbody : ∀ {cdv : Value} {A : Around} {outer : List Env} {s : Shared} {vs : List V} {E : XK} (H : Hp) (e : Ends), (∀ {σ H}, e.rt .non H → e.nx σ H) → N.Nodup → (A.deeper (envOfC qual (defScope st) s.heap.objs.size f cdv)).units + 1 < cLine → Room k (A.deeper (envOfC qual (defScope st) s.heap.objs.size f cdv)) → sp vs H e.rt E →
      ∃ t, PSs (cxOf CX0 P w K mg base N qual (defScope st) f cdv A outer s H E).nox (defBody st) t ∧ t e (start N vs) H) (S : FnScope N ps (defScope st) := by exact {}) (len : ∀ vs H Q E, sp vs H Q E → vs.length = ps.length := by intro _ _ _ _ h; first | (obtain ⟨⟩ := h; subst_vars; rfl) | (obtain ⟨_, ⟨⟩⟩ := h; subst_vars; rfl) | (obtain ⟨_, _, _, _, _, _, rfl, _⟩ := h; rfl) | (repeat obtain ⟨_, h⟩ := h); subst_vars; rfl) : FnOk P w K mg base CX0 (k + 1) f fd ps sp := F.ok S len fun _ _ _ _ H _ e _ tn hr h => hbody H e tn S.nd (hu_of hr) hr h
end
theorem cal {X : Cx} {j k : Nat} {ps : List Str} {sp : Sp} {x : Str} {p pos : Pos} {e : Expr} {es : List Expr} {t : TA} (D : Df X.prog X.w X.K X.mg X.base x ps k sp) (hr : Room j X.A) (ha : PA X (e :: es) t) (hg : Gl X x := by rfl) (hdb : (x == ("__debug__" : Str)) = false := by decide)
    (he : starEach (e :: es) X.env = (false, eval e X.env) :: starEach es X.env := by rfl) (hpl : (backTo pos (starEach es X.env)).any (·.1) = false := by rfl) (hk : k ≤ j := by first | decide | lia) : PE X (.Call (.Name x p) (e :: es) [] pos) (tCall sp [] E0 t) := by
  obtain ⟨f, fd, k, b, m, G⟩ := D.ex
  exact pe_call G (hr.mono hk) hg m k b .nil pass0 ha hdb he hpl
theorem pa1 {X : Cx} {e : Expr} {te : TE} (h : PE X e te) (hs : starEach [e] X.env = (false, eval e X.env) :: starEach [] X.env := by rfl) : PA X [e] (tCons te tNil) := pa_cons h pa_nil hs
theorem ixl (K : PySem.W.Frag) {X : Cx} {a b : Expr} {ta tb : TE} {pos : Pos} (ha : PE X a ta) (hb : PE X b tb) (hs : PlainIx b := by exact fun _ _ => rfl) (e : X.K = K := by rfl) : PE X (.Subscript a b pos) (tOp (rIxL K) ta tb) := by
  subst e
  exact pe_ix ix_list ha hb hs
theorem cmp {X : Cx} {x : Str} {px pos : Pos} {iter elt : Expr} {wi : TI} {te : TE} {scope : Scope} (fv : List Str) (fs : List Nat) (hi : PI X (.Name x px) iter wi) (he : ∀ C s0 H0 fp, PE (compX X (x :: fv) scope C s0 H0 fp) elt te) (hc : X.calm = true := by rfl) (ok : CompOk X scope x fv fs := by exact .of (by rfl))
    (hs : ∀ x, foldedSetIterable iter X.env x = pure x := by intro _; rfl) : PE X (.ListComp elt [⟨.Name x px, iter, [], 0⟩] scope pos) (tComp wi tYes te fs) := pe_comp hc ok hi (fun _ _ _ _ => pts_nil) he hs
theorem isi {X : Cx} {r : List V → Hp → VK → Prop} {e : Expr} {te : TE} {p q pos : Pos} {y : Str} {U : String} (hc : CallR X (.builtin "isinstance") r) (T : Txt X.mg) (he : PE X e te) (h1 : X.mg y = none) (h2 : bootBuiltins y = some (.type U)) (hg : Gl X "isinstance" := by rfl) (hy : Gl X y := by rfl) (hn : y ≠ "__name__" := by decide) (hd : (y == ("__debug__" : Str)) = false := by decide) (hs : starEach [e, .Name y q] X.env = (false, eval e X.env) :: starEach [.Name y q] X.env := by rfl) : PE X (.Call (.Name "isinstance" p) [e, .Name y q] [] pos) (tCB r (tCons te (tCons (tC (.ty U)) tNil))) := pe_callB hc hg T.isinstance b_isinstance (pa_cons he (pa_cons (pe_bltn hy h1 h2 rfl hn hd) pa_nil) hs) (by decide) (by decide) hs
theorem zpos_ {j : Int} (h : 0 < j := by decide) : 0 < j := h
theorem dec2_ {A B : Prop} (h : A := by decide) (h' : B := by decide) : A ∧ B := ⟨h, h'⟩
theorem fo1 {X : Cx} {tg iter : Expr} {body : List Stmt} {wi : TI} {g : TG} {tb : TS} {pos : Pos} (hi : PI X tg iter wi) (hg : PG X tg g) (hb : PSs X body tb) (hp : PassesOwn (model X.prog X.w) X.A X.env X.xe := by exact PassesOwn.never) (hc : X.calm = true := by rfl)
    (hs : ∀ x, foldedSetIterable iter X.env x = pure x := by intro _; rfl) : PS X (.For tg iter body [] pos) (tFor wi g tb) := ps_for hp hc hi hg hb hs
inductive FA (K : PySem.W.Frag) (x : Str) (st : Stmt) : Prop
  | mk (f : Addr) (fd : FuncData) (F : Fun K x x st f fd) (a : PySem.W.nsIn K mainGlobals x = some (some (.ref f)))
theorem fa {K : PySem.W.Frag} {x : Str} {st : Stmt} {f : Addr} {oc : Value} {od an : Option Addr} {osl : Array (Option Value)} {kV doc pm cdv ct : Value} (a : PySem.W.nsIn K mainGlobals x = some (some (.ref f))) (l : K.lookup f = some ⟨oc, od, .func (PySem.W.fnOf x x (defArgs st) (defBody st) (defScope st) .none kV doc pm an cdv ct), osl⟩)
    (c : PySem.W.codeIn K cdv x = true) (k : PySem.W.keepIn K (.ref f) = true) : FA K x st := ⟨_, _, fun_mk l c k, a⟩
end L2
namespace K92
open PySem L2
def top (i : Nat) : Stmt := PySem.Challenge.pw_patchbough_k92_no_texts.main.body.getD i (.Pass ⟨0, 0, 0, 0⟩)
abbrev Fq (K : PySem.W.Frag) (x : Str) (i : Nat) (f : Addr) (d : FuncData) : Prop := Fun K x x (top i) f d
abbrev Fb (K : PySem.W.Frag) (x : Str) (i : Nat) : Prop := FA K x (top i)
abbrev sStepsOf : Stmt := top 9
abbrev sInnerOf : Stmt := top 10
abbrev sAddAt : Stmt := top 11
abbrev sRefuseUnless : Stmt := top 29
abbrev sShownPart : Stmt := top 31
abbrev sReadDoc : Stmt := top 32
abbrev sBegun : Stmt := top 33
abbrev sBegunHolder : Stmt := top 34
abbrev sGoneOn : Stmt := top 35
abbrev sEndOf : Stmt := top 36
abbrev sNameIn : Stmt := top 37
abbrev sLettersIn : Stmt := top 38
abbrev sNumberIn : Stmt := top 39
abbrev sNumberOf : Stmt := top 40
abbrev sReadPath : Stmt := top 41
abbrev sStepOf : Stmt := top 42
abbrev sReadRows : Stmt := top 43
abbrev sReadRow : Stmt := top 44
abbrev sReadThing : Stmt := top 45
abbrev sLaw : Stmt := top 56
abbrev sNoTextInit : Stmt := inClass (top 19) 0
abbrev sReaderInit : Stmt := inClass (top 28) 0
abbrev sReaderPasses : Stmt := inClass (top 28) 1
abbrev sReaderRunOf : Stmt := inClass (top 28) 2
abbrev sReaderEnded : Stmt := inClass (top 28) 3
end K92

set_option Elab.async false
set_option linter.all false
set_option maxRecDepth 100000
set_option maxHeartbeats 40000000
namespace K92
open PySem L2
section
variable {P : Program} {w : World} {K : PySem.W.Frag} {mg : Str → Option Value} {base : Heap}
theorem scNoTextInit : FnScope ["self", "at"] ["self", "at"] (defScope sNoTextInit) := {}
theorem ok_NoTextInit {C f : Addr} {fd : FuncData} (F : Fun K "__init__" "NoText.__init__" sNoTextInit f fd) (k : SKit K C "at") : FnOk P w K mg base CX0 1 f fd ["self", "at"] (spInit1 C) := by
  refine F.oq ["self", "at"] fun H _ tn _ _ hr h => ?_
  obtain ⟨ea, i, rfl, he, q⟩ := h
  refine ⟨_, (pss_one (ps_setF1 rfl (pv 0) (pv 1) rfl)), ?_⟩
  exact ⟨_, rfl, _, rfl, ea, C, rfl, he, k, fun dx h1 h2 => tn (q dx h1 h2)⟩
theorem okN_NoTextInit {C f : Addr} {fd : FuncData} (F : Fun K "__init__" "NoText.__init__" sNoTextInit f fd) (k : SKit K C "at") : FnOkN P w K mg base CX0 1 f fd ["self", "at"] (spInit1 C) := by
  refine F.okN scNoTextInit (fun vs H Q E h => ?_) (fun cdv A outer s H vs Q E hr h => ?_)
  · obtain ⟨ea, i, rfl, he, q⟩ := h
    rfl
  · obtain ⟨ea, i, rfl, he, q⟩ := h
    refine ⟨_, (pss_one (ps_setF1 rfl (pv 0) (pv 1) rfl)), ?_⟩
    exact ⟨_, rfl, _, rfl, ea, C, rfl, he, k, fun dx h1 h2 => q dx h1 h2⟩
theorem ok_Gathered {fI : Addr} {fdI : FuncData} {f : Addr} {fd : FuncData} (F : Fq K "gathered" 1 f fd) (T : Txt mg) (kI : PySem.W.keepIn K (.ref fI) = true) (bI : Binds K fdI ["doc"] []) (GI : FnOk P w K mg base CX0 2 fI fdI ["doc"] spInC) : FnOk P w K mg base CX0 3 f fd ["root", "inner"] (spGaC fI) := by
  refine F.oq ["root", "inner", "found", "at"] fun H _ _ ndq _ hr h => ?_
  obtain ⟨v, es, rfl, cl, le, q⟩ := h
  have hrI : Room 2 _ := hr.mono (by decide)
  refine ⟨_, (pss_cons (ps_se 2 ndq (pe_lst (pa1 (pv 0))))
    (pss_cons (ps_se 3 ndq pe_int)
    (pss_cons (ps_while PassesOwn.never (pt_cmpR op_lt (pv 3) (len1 K T (pv 2)) (nomark _)) (pss_cons (ps_expr (xtd K (pv 2) (pe_callV (pv 1) GI hrI kI bI .nil pass0 (pa1 (ixl K (pv 2) (pv 3))))))
    (pss_one (ps_se 3 ndq (pe_op op_add (pv 3) pe_int)))))
    (pss_one (ps_ret (pv 2)))))), ?_⟩
  generalize hF : v :: es = full at *
  have l0 : full.length = es.length + 1 := by rw [← hF, List.length_cons]
  refine ⟨_, rfl, one_line, .mk fun L H1 hL s0 f0 => ?_⟩
  dsimp only [gName, tSeq]
  refine while_W (fun m σ Hi => ∃ k : Nat, σ = [some v, some (.ref fI), some (.ref L), some (.int (k : Int))] ∧ Same H Hi ∧ Hi L = some (.lst (full.take (k + 1))) ∧ k ≤ full.length ∧ m = full.length - k) _ ⟨0, rfl, s0, by rw [f0, ← hF]; rfl, Nat.zero_le _, rfl⟩ ?_ (fun σ H Q Q' h ⟨v1, e1, v2, e2, a1, n1, e3, l1, i1, j1, e4, e5, b1, e6, q⟩ => ⟨v1, e1, v2, e2, a1, n1, e3, l1, i1, j1, e4, e5, b1, e6, h _ _ q⟩)
  rintro m σ Hi _ go ⟨k, rfl, si, hLi, hk, rfl⟩
  refine ⟨_, rfl, _, rfl, L, _, rfl, .inl (SqL.of hLi), _, _, rfl, rfl, _, rfl, ?_⟩
  by_cases hlt : k < full.length
  · have tl : (full.take (k + 1)).length = k + 1 := by rw [List.length_take]; exact Nat.min_eq_left hlt
    obtain ⟨x, hx⟩ : ∃ x, full[k]? = some x := ⟨_, List.getElem?_eq_getElem hlt⟩
    have hxk : (full.take (k + 1))[k]? = some x := by rw [List.getElem?_take_of_lt (Nat.lt_succ_self k)]; exact hx
    refine iteBT (decide_eq_true (by rw [tl]; lia)) ?_
    have tk : full.take (k + 1 + 1) = full.take (k + 1) ++ (full[k + 1]?).toList := List.take_add_one
    refine ⟨_, rfl, .inl ⟨rfl, _, SqL.of hLi⟩, _, rfl, rfl, _, rfl, _, rfl, L, _, _, _, rfl, rfl, SqL.of hLi, atI_nat hxk, ?_⟩
    rcases cl.get hx with ⟨le1, rfl⟩ | ⟨o, w1, rfl, ho, hn⟩
    · refine .num rfl fun p H2 s2 f2 => ⟨L, p, _, _, rfl, rfl, s2 _ _ hLi, f2, ?_, _, rfl, _, _, rfl, rfl, go.n ⟨full.length - (k + 1), by lia, k + 1, rfl, (si.trans s2).put hL, ?_, hlt, rfl⟩⟩
      · rw [tl]; exact Nat.le_trans (show k + 1 + 0 ≤ 201 by lia) (by decide)
      · rw [upd_same, tk, List.getElem?_eq_none (by lia)]; rfl
    · refine .row o w1 rfl (si _ _ ho) fun p H2 s2 f2 => ⟨L, p, _, _, rfl, rfl, s2 _ _ hLi, f2, ?_, _, rfl, _, _, rfl, rfl, go.n ⟨full.length - (k + 1), by lia, k + 1, rfl, (si.trans s2).put hL, ?_, hlt, rfl⟩⟩
      · rw [tl]; exact Nat.le_trans (show k + 1 + 1 ≤ 202 by lia) (by decide)
      · rw [upd_same, tk, hn]; rfl
  · have e : full.take (k + 1) = full := List.take_of_length_le (by lia)
    rw [e] at hLi ⊢
    exact iteBF (decide_eq_false (by lia)) ⟨_, rfl, q L Hi si hL hLi⟩
theorem ok_Folded {fI fJ : Addr} {fdI fdJ : FuncData} {f : Addr} {fd : FuncData} (F : Fq K "folded" 2 f fd) (T : Txt mg) (DGathered : Df P w K mg base "gathered" ["root", "inner"] 3 (spGaC fI)) (kI : PySem.W.keepIn K (.ref fI) = true) (bI : Binds K fdI ["doc"] []) (GI : FnOk P w K mg base CX0 2 fI fdI ["doc"] spInC) (kJ : PySem.W.keepIn K (.ref fJ) = true) (bJ : Binds K fdJ ["doc", "told"] []) (GJ : FnOk P w K mg base CX0 2 fJ fdJ ["doc", "told"] spShP) : FnOk P w K mg base CX0 5 f fd ["root", "inner", "join"] (spFoC fI fJ) := by
  refine F.oq ["root", "inner", "join", "found", "told", "end", "at", "start"] fun H _ _ ndq _ hr h => ?_
  obtain ⟨v, es, rfl, cl, le, q⟩ := h
  have hrI : Room 2 _ := hr.mono (by decide)
  have hrJ : Room 2 _ := hr.mono (by decide)
  refine ⟨_, (pss_cons (ps_se 3 ndq (cal DGathered hr (pa_cons (pv 0) (pa1 (pv 1)))))
    (pss_cons (ps_se 4 ndq (pe_op op_rep (pe_lst (pa1 pe_non)) (len1 K T (pv 3))))
    (pss_cons (ps_se 5 ndq (len1 K T (pv 3)))
    (pss_cons (fo1 (pi_range3 rfl T.range (pa_cons (pe_op op_sub (len1 K T (pv 3)) pe_int) (pa_cons (pe_un un_neg pe_int) (pa1 (pe_un un_neg pe_int))))) (pg_na 6 ndq) (pss_cons (ps_se 7 ndq (pe_op op_sub (pv 5) (len1 K T (pe_callV (pv 1) GI hrI kI bI .nil pass0 (pa1 (ixl K (pv 3) (pv 6)))))))
    (pss_cons (ps_asg (pe_callV (pv 2) GJ hrJ kJ bJ .nil pass0 (pa_cons (ixl K (pv 3) (pv 6)) (pa1 (pe_slice (r := rSlL K) sl_list (pv 4) (po_some (pv 7)) (po_some (pv 5)))))) (pg_sub (pv 4) (pv 6) set_list))
    (pss_one (ps_se 5 ndq (pv 7))))))
    (pss_one (ps_ret (ixl K (pv 4) pe_int))))))), ?_⟩
  generalize hF : v :: es = full at *
  have l0 : full.length = es.length + 1 := by rw [← hF, List.length_cons]
  refine ⟨_, rfl, _, rfl, v, es, rfl, by rw [hF]; exact cl, Nat.le_trans le (by decide), fun p H1 s1 np hp => ?_⟩
  rw [hF] at hp
  refine ⟨one_line, .mk fun p0 H2 hp0 t0 f0 => ?_⟩
  refine ⟨_, rfl, p, _, rfl, .inl (SqL.of (t0 _ _ hp)), p0, _, _, rfl, rfl, f0, by lia, by lia, ?_, .mk fun pT H3 hpT tT fT => ?_⟩
  · rw [Int.toNat_natCast]
    show 1 * full.length ≤ _
    exact Nat.le_trans (show 1 * full.length ≤ 1000 by lia) (by decide)
  rw [rep_non] at fT
  have s13 := t0.trans tT
  have hp3 := s13 _ _ hp
  have s03 := s1.trans s13
  have nT : H pT = none := (s1.trans t0).free hpT
  refine ⟨_, rfl, p, _, rfl, .inl (SqL.of hp3), ?_⟩
  refine ⟨_, rfl, p, _, rfl, .inl (SqL.of hp3), _, _, rfl, rfl, _, rfl, _, rfl, full.length, rfl, by lia, ?_⟩
  refine for_down (n := full.length) (fun i σ Hi => ∃ (ts : List V) (o6 o7 : Option V), σ = [some v, some (.ref fI), some (.ref fJ), some (.ref p), some (.ref pT), some (.int ((min (i + 1) full.length : Nat) : Int)), o6, o7] ∧ Same H Hi ∧ Hi p = some (.lst full) ∧ Hi pT = some (.lst ts) ∧ ToldC full.length i ts) ⟨_, none, none, ?_, s03, hp3, fT, by simp, fun j h1 h2 => absurd h2 (by lia)⟩ ?_ ?_
  · rw [Nat.min_eq_right (Nat.le_succ _)]
    rfl
  · rintro i σ Hi _ go hi ⟨ts, o6, o7, rfl, si, hpi, hT, lt, ht⟩
    obtain ⟨x, hx⟩ : ∃ x, full[i]? = some x := ⟨_, List.getElem?_eq_getElem hi⟩
    refine ⟨_, rfl, _, rfl, rfl, _, rfl, _, rfl, p, _, _, _, rfl, rfl, SqL.of hpi, atI_nat hx, ?_⟩
    have pe : p ≠ pT := fun z => by rw [← z, t0 _ _ hp] at hpT; cases hpT
    have m1 : min (i + 1) full.length = i + 1 := Nat.min_eq_left hi
    have set_ok : ∀ {Hx : Hp} {w1 : Str}, sgn w1 = nest (full.length - 1 - i) → Same Hi Hx → ToldC full.length i (ts.set i (.str w1)) := fun ew _ => ⟨by rw [List.length_set]; exact lt, fun j h1 h2 => by
      by_cases hj : j = i
      · rw [hj]; exact ⟨_, by rw [List.getElem?_set_self (by lia)], ew⟩
      · rw [List.getElem?_set_ne (Ne.symm hj)]; exact ht j (by lia) h2⟩
    have ixi : ixN ts.length ((i : Nat) : Int) = some i := by unfold ixN; rw [if_pos (by lia), if_pos (by lia), Int.toNat_natCast]
    rcases cl.get hx with ⟨le1, rfl⟩ | ⟨o, w1, rfl, ho, hn⟩
    · refine .num rfl fun pI H4 s4 hI => ⟨pI, _, rfl, .inl (SqL.of hI), _, _, rfl, rfl, ?_⟩
      have est : (((min (i + 1 + 1) full.length : Nat) : Int)) - (([] : List V).length : Int) = ((i + 1 : Nat) : Int) := by rw [Nat.min_eq_right (by lia), ← le1]; rfl
      rw [est, Nat.min_eq_right (by lia)]
      have hT4 := s4 _ _ hT
      have hp4 := s4 _ _ hpi
      refine ⟨_, rfl, rfl, _, rfl, _, rfl, p, _, _, _, rfl, rfl, SqL.of hp4, atI_nat hx, ?_⟩
      refine ⟨_, rfl, _, rfl, _, rfl, _, rfl, _, rfl, pT, ts, rfl, SqL.of hT4, .mk fun pS H5 hpS t5 f5 => ?_⟩
      refine .num pS rfl fun t et => ?_
      refine ⟨_, rfl, _, rfl, pT, ts, _, i, rfl, rfl, t5 _ _ hT4, ixi, ?_⟩
      refine ⟨_, rfl, go.n ⟨_, _, _, by rw [m1]; rfl, (si.trans (s4.trans t5)).put nT, by rw [upd_ne pe]; exact t5 _ _ hp4, upd_same, set_ok (Hx := H5) (by rw [et, show full.length - 1 - i = 0 by lia]; rfl) (s4.trans t5)⟩⟩
    · have hlt : i + 1 < full.length := (List.getElem?_eq_some_iff.mp hn).1
      refine .row o w1 rfl (si _ _ ho) fun pI H4 s4 hI => ⟨pI, _, rfl, .inl (SqL.of hI), _, _, rfl, rfl, ?_⟩
      have est : (((min (i + 1 + 1) full.length : Nat) : Int)) - (([w1] : List V).length : Int) = ((i + 1 : Nat) : Int) := by rw [Nat.min_eq_left hlt]; simp
      rw [est, Nat.min_eq_left hlt]
      have hT4 := s4 _ _ hT
      have hp4 := s4 _ _ hpi
      obtain ⟨s6, e6, n6⟩ := ht (i + 1) (Nat.le_refl _) hlt
      refine ⟨_, rfl, rfl, _, rfl, _, rfl, p, _, _, _, rfl, rfl, SqL.of hp4, atI_nat hx, ?_⟩
      refine ⟨_, rfl, _, rfl, _, rfl, _, rfl, _, rfl, pT, ts, rfl, SqL.of hT4, .mk fun pS H5 hpS t5 f5 => ?_⟩
      rw [cutV_m ts _ _ (Nat.le_succ _) (by lia), show i + 1 + 1 - (i + 1) = 1 by lia, List.drop_eq_getElem_cons (by lia), List.take_succ_cons, List.take_zero, (List.getElem?_eq_some_iff.mp e6).2] at f5
      have l6 : s6.length ≤ 300 := by rw [str_len, n6, nest_len]; lia
      refine .row o pS w1 s6 rfl (t5 _ _ (s4 _ _ (si _ _ ho))) f5 l6 fun t et => ?_
      refine ⟨_, rfl, _, rfl, pT, ts, _, i, rfl, rfl, t5 _ _ hT4, ixi, ?_⟩
      refine ⟨_, rfl, go.n ⟨_, _, _, by rw [m1]; rfl, (si.trans (s4.trans t5)).put nT, by rw [upd_ne pe]; exact t5 _ _ hp4, upd_same, set_ok (Hx := H5) (by rw [et, n6, show full.length - 1 - i = (full.length - 1 - (i + 1)) + 1 by lia, nest_succ]) (s4.trans t5)⟩⟩
  · rintro σ Hi ⟨ts, o6, o7, rfl, si, hpi, hT, lt, ht⟩
    obtain ⟨s6, e6, n6⟩ := ht 0 (Nat.le_refl _) (by lia)
    exact ⟨_, rfl, pT, ts, 0, _, rfl, rfl, SqL.of hT, atI_nat e6, q s6 Hi si (by rw [n6, l0]; rfl)⟩
theorem ok_HasLettersAlone {f : Addr} {fd : FuncData} (F : Fq K "has_letters_alone" 7 f fd) (T : Txt mg) (hL : ∃ t, mg "LETTERS" = some (.str "abcdefghijklmnopqrstuvwxyz" t)) : FnOk P w K mg base CX0 1 f fd ["text"] spLetters := by
  obtain ⟨tl, hl⟩ := hL
  refine F.oq ["text"] fun H _ _ _ _ hr h => ?_
  obtain ⟨x, rfl, hx, k⟩ := h
  refine ⟨_, (pss_one (ps_ret (pe_callB (call_all rfl) rfl T.all b_all (pa1 (cmp [] [] (pi_str (pv 0)) fun _ _ _ _ => (pe_cmpR op_in_str (pv 0) (pe_glob (v := .str "abcdefghijklmnopqrstuvwxyz") rfl hl ⟨tl, rfl⟩) rfl)))))), ?_⟩
  refine ⟨.str x, rfl, x, rfl, ?_⟩
  refine comp_pure (n := x.cps.size) (fun i => .str ⟨#[x.cps.getD i 0]⟩) (fun i => .bl (isL (x.cps.getD i 0))) (fun _ => true) ?_ (fun i D ys hi hD => hi) (fun i D ys v H' hi hD y => ?_) (fun D ys hD => rfl) (fun i D ys R hi hD r => by exact r)
    (fun i D ys R hi hD _ r => ?_) (fun D hD => ?_)
  · have : x.cps.size ≤ 1000 := hx
    exact Nat.le_of_lt (small1000 this)
  · obtain ⟨e, c, hc, e2⟩ := y
    subst e e2
    have : x.cps.getD i 0 = c := by rw [Array.getD_eq_getD_getElem?, hc]; rfl
    exact ⟨by rw [this], rfl⟩
  · refine ⟨_, rfl, _, _, rfl, rfl, ?_⟩
    rw [StrLaws.found_one]
    exact r
  · refine ⟨D, (sgn x).map isL, rfl, ?_, ?_⟩
    · have e : List.map (fun i => V.bl (isL (x.cps.getD i 0))) (List.filter (fun _ => true) (List.range x.cps.size)) = List.map V.bl (List.map isL (sgn x)) := by
        rw [List.filter_eq_self.mpr fun _ _ => rfl, List.map_map]
        refine List.ext_getElem (by simp) fun i h1 h2 => ?_
        simp only [List.getElem_map, List.getElem_range, Function.comp]
        congr 2
        have hi : i < x.cps.size := by simpa using h1
        rw [Array.getD_eq_getD_getElem?, Array.getElem?_eq_getElem hi]
        simp
      rw [e]
      exact SqL.of upd_same
    · rw [List.all_map]
      exact k _ fun b o e => by rw [upd_ne (ne_of_none e hD)]; exact e
theorem ok_IsName {f : Addr} {fd : FuncData} (F : Fq K "is_name" 8 f fd) (T : Txt mg) (DHasLettersAlone : Df P w K mg base "has_letters_alone" ["text"] 1 spLetters) (hN : ∃ t, mg "LONGEST_NAME" = some (.int 8 t)) : FnOk P w K mg base CX0 2 f fd ["thing"] spName := by
  obtain ⟨tl, hl⟩ := hN
  refine F.oq ["thing"] fun H _ _ _ _ hr h => ?_
  obtain ⟨v, Ty, rfl, ty, sh, k⟩ := h
  refine ⟨_, (pss_one (ps_ret (pe_and (isi call_isiN T (pv 0) T.str b_str) (pe_and (pe_chain op_le op_le pe_int (pe_callB call_len_str rfl T.len PySem.boot_len (pa1 (pv 0))) (pe_glob (v := .int 8) rfl hl ⟨tl, rfl⟩)) (pe_one (cal DHasLettersAlone hr (pa1 (pv 0)))))))), ?_⟩
  refine ⟨v, rfl, v, "str", Ty, rfl, rfl, ty, _, rfl, ?_⟩
  cases ty with
  | str x =>
    refine iteT ?_
    have hx := sh x rfl
    have hz : x.length ≤ sizeLine := Nat.le_of_lt (small1000 hx)
    refine ⟨.str x, rfl, x, rfl, hz, 1, _, rfl, rfl, _, rfl, ?_⟩
    have k := k
    have e : nameV (.str x) = (decide (1 ≤ x.length) && decide (x.length ≤ 8) && (sgn x).all isL) := by
      show nameS (sgn x) = _
      unfold nameS
      rw [sgn_length]
    rw [e] at k
    have d1 : decide ((1 : Int) ≤ (x.length : Int)) = decide (1 ≤ x.length) := by rw [Bool.eq_iff_iff]; simp; omega
    have d2 : decide ((x.length : Int) ≤ 8) = decide (x.length ≤ 8) := by rw [Bool.eq_iff_iff]; simp; omega
    rw [d1]
    refine ite2 (fun h1 => ?_) (fun h1 => ?_)
    · rw [h1] at k
      refine ⟨_, _, rfl, rfl, _, rfl, ?_⟩
      rw [d2]
      refine ite2 (fun h2 => ?_) (fun h2 => ?_)
      · rw [h2] at k
        exact ⟨.str x, rfl, x, rfl, hx, k⟩
      · rw [Bool.not_eq_true _ |>.mp h2] at k
        exact k H (Same.refl H)
    · rw [Bool.not_eq_true _ |>.mp h1] at k
      exact ⟨_, rfl, iteF (k H (Same.refl H))⟩
  | non => exact iteF (k H (Same.refl H))
  | bl b => exact iteF (k H (Same.refl H))
  | int i => exact iteF (k H (Same.refl H))
  | lst e => exact iteF (k H (Same.refl H))
  | tup e => exact iteF (k H (Same.refl H))
  | dK e => exact iteF (k H (Same.refl H))
theorem scStepsOf : FnScope ["doc"] ["doc"] (defScope sStepsOf) := {}
theorem ok_StepsOf {f : Addr} {fd : FuncData} (F : Fq K "steps_of" 9 f fd) (T : Txt mg) : FnOk P w K mg base CX0 1 f fd ["doc"] spStC := by
  refine F.ok scStepsOf (fun vs H Q E h => ?_) (fun cdv A outer s H vs En E tn hr h => ?_)
  · cases h <;> (subst_vars; rfl)
  · have nd := scStepsOf.nd
    have hu := hu_of hr
    refine ⟨_, (pss_cons (ps_if (pt_val (isi call_isiN T (pv 0) T.list b_list)) (pss_one (ps_ret (pe_callTy (call_list_rng rfl) rfl T.list b_list (pa1 (pe_range rfl T.range (pa1 (len1 K T (pv 0)))))))) pss_nil)
      (pss_cons (ps_if (pt_val (isi call_isiN T (pv 0) T.dict b_dict)) (pss_one (ps_ret (pe_callB (call_sortedD rfl) rfl T.sorted b_sorted (pa1 (pv 0))))) pss_nil)
      (pss_one (ps_ret (pe_lst pa_nil))))), ?_⟩
    have h1 : spStCI vs H En.rt := h
    clear h
    cases h1 with
    | row o w x0 h q =>
      subst x0
      refine ⟨_, rfl, _, "list", "list", rfl, rfl, .lst (.inl h), _, rfl, iteBT rfl ?_⟩
      refine ⟨_, rfl, o, _, rfl, .inl (SqL.of h), _, rfl, fun r hr => ?_⟩
      exact ⟨r, 1, rfl, upd_same, by decide, .mk fun p H' n s f => q p H' ((Same.new hr).trans s) f⟩
    | num x0 q =>
      subst x0
      refine ⟨_, rfl, _, "list", "int", rfl, rfl, .int 1, _, rfl, iteBF rfl ?_⟩
      refine ⟨_, rfl, _, "dict", "int", rfl, rfl, .int 1, _, rfl, iteBF rfl ?_⟩
      exact ⟨Nat.zero_le _, .mk fun p H' n s f => q p H' s f⟩
theorem scInnerOf : FnScope ["doc"] ["doc"] (defScope sInnerOf) := {}
theorem ok_InnerOf {f : Addr} {fd : FuncData} (F : Fq K "inner_of" 10 f fd) (T : Txt mg) (DStepsOf : Df P w K mg base "steps_of" ["doc"] 1 spStC) : FnOk P w K mg base CX0 2 f fd ["doc"] spInC := by
  refine F.ok scInnerOf (fun vs H Q E h => ?_) (fun cdv A outer s H vs En E tn hr h => ?_)
  · cases h <;> (subst_vars; rfl)
  · have nd := scInnerOf.nd
    have hu := hu_of hr
    refine ⟨_, (pss_one (ps_ret (cmp ["doc"] [0] (pi_list (cal DStepsOf hr (pa1 (pv 0)))) fun _ _ _ _ => (ixl K (pv 1) (pv 0))))), ?_⟩
    have h1 : spInCI vs H En.rt := h
    clear h
    cases h1 with
    | row o w x0 h q =>
      subst x0
      refine ⟨_, rfl, .row o w rfl h fun p H1 s1 f1 => ⟨p, rfl, ⟨_, SqL.of f1⟩, fun D hD => ?_⟩⟩
      refine ⟨fun i m H2 => Same H1 H2 ∧ ((i = 0 ∧ m = 1 ∧ H2 D = some (.lst [])) ∨ (i = 1 ∧ m = 0 ∧ H2 D = some (.lst [w]))), ⟨1, Same.new hD, .inl ⟨rfl, rfl, upd_same⟩⟩, ?_⟩
      rintro i m H2 ⟨s2, ⟨rfl, rfl, d2⟩ | ⟨rfl, rfl, d2⟩⟩
      · refine .inr ⟨⟨_, _, SqL.of (s2 _ _ f1), rfl⟩, fun v H3 yl => ?_⟩
        obtain ⟨rfl, y⟩ := yl
        have ev := y _ (SqL.of (s2 _ _ f1))
        obtain rfl : V.int 0 = v := by simpa using ev
        refine ⟨_, rfl, _, rfl, o, _, 0, _, rfl, rfl, SqL.of (s2 _ _ (s1 _ _ h)), at0, [], d2, by decide, 0, by decide, s2.put hD, .inr ⟨rfl, rfl, upd_same⟩⟩
      · exact .inl ⟨⟨_, SqL.of (s2 _ _ f1), Nat.le_refl _⟩, q D H2 (s1.trans s2) d2⟩
    | num x0 q =>
      subst x0
      refine ⟨_, rfl, .num rfl fun p H1 s1 f1 => ⟨p, rfl, ⟨_, SqL.of f1⟩, fun D hD => ?_⟩⟩
      refine ⟨fun i m H2 => Same H1 H2 ∧ i = 0 ∧ H2 D = some (.lst []), ⟨0, Same.new hD, rfl, upd_same⟩, ?_⟩
      rintro i m H2 ⟨s2, rfl, d2⟩
      exact .inl ⟨⟨_, SqL.of (s2 _ _ f1), Nat.le_refl _⟩, q D H2 (s1.trans s2) d2⟩
theorem scAddAt : FnScope ["holder", "step", "thing"] ["holder", "step", "thing"] (defScope sAddAt) := {}
theorem ok_AddAt {f : Addr} {fd : FuncData} (F : Fq K "add_at" 11 f fd) (T : Txt mg) : FnOk P w K mg base CX0 2 f fd ["holder", "step", "thing"] spAdd := by
  refine F.ok scAddAt (fun vs H Q E h => ?_) (fun cdv A outer s H vs En E tn hr h => ?_)
  · cases h <;> (subst_vars; rfl)
  · have nd := scAddAt.nd
    have hu := hu_of hr
    refine ⟨_, (pss_one (ps_if (pt_val (isi call_isiN T (pv 0) T.list b_list)) (pss_one (ps_expr (apd K (pv 0) (pv 2)))) (pss_one (ps_dput hu (pv 0) (pv 1) (pv 2) rfl)))), ?_⟩
    have h1 : spAddI vs H En.rt := h
    clear h
    cases h1 with
    | row h ys s v x0 hh l q =>
      subst x0
      refine ⟨_, rfl, _, "list", "list", rfl, rfl, .lst (.inl hh), _, rfl, iteBT rfl ?_⟩
      exact ⟨_, rfl, .inl ⟨rfl, _, SqL.of hh⟩, _, rfl, h, _, _, rfl, rfl, hh, Nat.lt_of_lt_of_le l (by decide), tn q⟩
    | tab h kvs s v x0 hh l q =>
      subst x0
      refine ⟨_, rfl, _, "list", "dict", rfl, rfl, .dK (.inl hh), _, rfl, iteBF rfl ?_⟩
      exact ⟨_, rfl, _, rfl, _, rfl, h, _, rfl, DPut.k (k := Sum.inr s) hh (Nat.lt_of_lt_of_le l (by decide)), tn q⟩
theorem scRefuseUnless : FnScope ["holds_good"] ["holds_good"] (defScope sRefuseUnless) := {}
theorem ok_RefuseUnless {c fi : Nat → Addr} {cB : Addr} {f : Addr} {fd : FuncData} (F : Fq K "refuse_unless" 29 f fd) (T : Txt mg) (N : Nm mg c cB) (kn : Kn K c cB fi) (I5 : In1 P w K mg base (fi 5) ["self", "at"] (spInit1 (c 5))) : FnOk P w K mg base (CXD P w) 3 f fd ["holds_good"] (spRU c) := by
  obtain ⟨fdNoText, GINoText, bINoText, hINoText⟩ := I5
  refine F.okD scRefuseUnless (fun vs H Q E h => ?_) (fun cdv A outer s H vs Q E hr h => ?_)
  · obtain ⟨b, rfl, q, e⟩ := h
    rfl
  · obtain ⟨b, rfl, q, e⟩ := h
    have nd := scRefuseUnless.nd
    have hu := hu_of hr
    have hrI : Room 2 _ := hr.mono (by decide)
    have qINoText : ownInI K (c 5) (fi 5) = true := kn.own 3 (by decide)
    refine ⟨_, (pss_one (ps_if (pt_not (pt_val (pv 0))) (pss_one (ps_raiseI rfl rfl rfl N.NoText qINoText GINoText hrI bINoText hINoText raisesD (pa1 pe_int))) pss_nil)), ?_⟩
    refine ⟨_, rfl, _, rfl, ?_⟩
    cases b with
    | true => exact iteBF rfl (q rfl)
    | false => exact iteBT rfl (rai1 one_line fun dx hd => e rfl (some dx) _ (Same.new hd) (.inr ⟨by decide, dx, rfl, upd_same⟩))
theorem ok_ShownDoc {fI fJ : Addr} {f : Addr} {fd : FuncData} (F : Fq K "shown_doc" 30 f fd) (T : Txt mg) (DFolded : Df P w K mg base "folded" ["root", "inner", "join"] 5 (spFoC fI fJ)) (mI : mg "inner_of" = some (.ref fI)) (mJ : mg "shown_part" = some (.ref fJ)) : FnOk P w K mg base CX0 7 f fd ["doc"] spShow := by
  refine F.oq ["doc"] fun H _ _ _ _ hr h => ?_
  obtain ⟨v, n, rfl, ch, ln, q⟩ := h
  refine ⟨_, (pss_one (ps_ret (cal DFolded hr (pa_cons (pv 0) (pa_cons (pe_glob (v := .ref fI) rfl mI rfl) (pa1 (pe_glob (v := .ref fJ) rfl mJ rfl))))))), ?_⟩
  obtain ⟨es, cl, le⟩ := ch.list
  exact ⟨_, rfl, v, es, rfl, cl, by rw [le]; exact ln, fun s1 H' s' e => q s1 H' s' (by rw [e, le])⟩
theorem scShownPart : FnScope ["doc", "told"] ["doc", "told"] (defScope sShownPart) := {}
theorem ok_ShownPart {f : Addr} {fd : FuncData} (F : Fq K "shown_part" 31 f fd) (T : Txt mg) (DStepsOf : Df P w K mg base "steps_of" ["doc"] 1 spStC) : FnOk P w K mg base CX0 2 f fd ["doc", "told"] spShP := by
  refine F.ok scShownPart (fun vs H Q E h => ?_) (fun cdv A outer s H vs En E tn hr h => ?_)
  · cases h <;> (subst_vars; rfl)
  · have nd := scShownPart.nd
    have hu := hu_of hr
    refine ⟨_, (pss_cons (ps_if (pt_val (isi call_isiN T (pv 0) T.list b_list)) (pss_one (ps_ret (pe_op op_add_str (pe_op op_add_str pe_str (pe_bm PySem.F.plainAttrs_str PySem.F.slot_str_join PySem.F.type_str_join mt_join pe_str (pa1 (pv 1)))) pe_str))) pss_nil)
      (pss_cons (ps_if (pt_val (isi call_isiN T (pv 0) T.dict b_dict)) (pss_one ps_never) pss_nil)
      (pss_cons (ps_if (pt_val (isi call_isiN T (pv 0) T.str b_str)) (pss_one (ps_ret (pe_op op_add_str (pe_op op_add_str pe_str (pv 0)) pe_str))) pss_nil)
      (pss_one (ps_ret (pe_callTy call_str_int rfl T.str b_str (pa1 (pv 0)))))))), ?_⟩
    have h1 : spShPI vs H En.rt := h
    clear h
    cases h1 with
    | row o l w s1 x0 h hl ls q =>
      subst x0
      refine ⟨_, rfl, _, "list", "list", rfl, rfl, .lst (.inl h), _, rfl, iteBT rfl ?_⟩
      have e0 : (Txt.join " " [s1]) = s1 := rfl
      refine ⟨rfl, _, rfl, " ", l, [s1], rfl, rfl, SqL.of hl, ?_, "[", _, rfl, rfl, ?_, _, "]", rfl, rfl, ?_, q _ ?_⟩
      · have e1 : ((" " : Str)).length = 1 := by decide +kernel
        show ([s1.length].sum + 1 * ((" " : Str)).length) ≤ _
        rw [e1, List.sum_singleton]; lia
      · rw [e0]; exact Nat.le_trans (Nat.add_le_add_left ls _) (by decide)
      · rw [e0, app_len]; exact Nat.le_trans (Nat.add_le_add_right (Nat.add_le_add_left ls _) _) (by decide)
      · rw [e0, sgn_app, sgn_app]; rfl
    | num l x0 q =>
      subst x0
      refine ⟨_, rfl, _, "list", "int", rfl, rfl, .int 1, _, rfl, iteBF rfl ?_⟩
      refine ⟨_, rfl, _, "dict", "int", rfl, rfl, .int 1, _, rfl, iteBF rfl ?_⟩
      refine ⟨_, rfl, _, "str", "int", rfl, rfl, .int 1, _, rfl, iteBF rfl ?_⟩
      exact ⟨_, rfl, 1, rfl, by decide, q _ (by decide +kernel)⟩
theorem scReadDoc : FnScope ["text", "reader", "waiting", "doc"] ["text"] (defScope sReadDoc) := {}
theorem ok_ReadDoc {c : Nat → Addr} {C gI : Addr} {fdI : FuncData} {f : Addr} {fd : FuncData} (F : Fq K "read_doc" 32 f fd) (T : Txt mg) (DRefuseUnless : DfD P w K mg base "refuse_unless" ["holds_good"] 3 (spRU c)) (DBegun : DfD P w K mg base "begun" ["reader", "waiting"] 10 (spBeg c C)) (DGoneOn : DfD P w K mg base "gone_on" ["reader", "waiting", "doc"] 8 (spGone c C)) (RM : RdM P w K mg base C) (M : Mk K C gI) (mC : mg "Reader" = some (.ref C)) (GI : FnOk P w K mg base CX0 1 gI fdI ["self", "text"] (spRIni C)) (bI : Binds K fdI ["self", "text"] []) : FnOk P w K mg base (CXD P w) 12 f fd ["text"] (spRead c) := by
  obtain ⟨fRefuseUnless, dRefuseUnless, kRefuseUnless, bRefuseUnless, mRefuseUnless, GRefuseUnless⟩ := DRefuseUnless.ex
  obtain ⟨fBegun, dBegun, kBegun, bBegun, mBegun, GBegun⟩ := DBegun.ex
  obtain ⟨fGoneOn, dGoneOn, kGoneOn, bGoneOn, mGoneOn, GGoneOn⟩ := DGoneOn.ex
  obtain ⟨cC, gE, fdE, mE, bE, GE, gP, fdP, mP, bP, GP, gR, fdR, mR, bR, GR⟩ := RM
  refine F.okD scReadDoc (fun vs H Q E h => ?_) (fun cdv A outer s H vs Q E hr h => ?_)
  · cases h <;> (subst_vars; rfl)
  · have nd := scReadDoc.nd
    have hu := hu_of hr
    have hrRefuseUnless : Room 3 _ := hr.mm
    have hrBegun : Room 10 _ := hr.mm
    have hrGoneOn : Room 8 _ := hr.mm
    have hrE : Room 1 _ := hr.mono (by decide)
    have hrP : Room 2 _ := hr.mono (by decide)
    refine ⟨_, (pss_cons (ps_expr (pe_call GRefuseUnless hrRefuseUnless rfl mRefuseUnless kRefuseUnless bRefuseUnless .nil passD (pa1 (isi call_isiN T (pv 0) T.str b_str))))
      (pss_cons (ps_se 1 nd (pe_make M GI hrP rfl mC bI .nil pass0 (pa1 (pv 0))))
      (pss_cons (ps_se 2 nd (pe_lst pa_nil))
      (pss_cons (ps_se 3 nd pe_non)
      (pss_cons (ps_while ownD (pt_cmpR op_isN (pv 3) pe_non (nomark _)) (pss_cons (ps_se 3 nd (pe_call GBegun hrBegun rfl mBegun kBegun bBegun .nil passD (pa_cons (pv 1) (pa1 (pv 2)))))
      (pss_one (ps_while ownD (PW.pt (pw_and (pt_cmpR op_notN (pv 3) pe_non (nomark _)) (pw_and1 (pt_cmpR (op_neE (Room.units0 hr)) (pv 2) (pe_lst pa_nil) (nomark _))))) (pss_one (ps_se 3 nd (pe_call GGoneOn hrGoneOn rfl mGoneOn kGoneOn bGoneOn .nil passD (pa_cons (pv 1) (pa_cons (pv 2) (pa1 (pv 3)))))))))))
      (pss_cons (ps_expr (pe_call GRefuseUnless hrRefuseUnless rfl mRefuseUnless kRefuseUnless bRefuseUnless .nil passD (pa1 (pe_meth0 (pv 1) cC mE GE hrE bE .nil pass0))))
      (pss_one (ps_ret (pv 3))))))))), ?_⟩
    have h1 : spReadI c vs H Q E := h
    clear h
    cases h1 with
    | odd v T x0 t n e =>
      subst x0
      refine ⟨_, rfl, _, "str", T, rfl, rfl, t, _, rfl, (fun z => ?_), fun _ d H' s' hf => e rfl d H' s' hf⟩
      rw [n] at z; cases z
    | txt x x0 lx q e =>
      subst x0
      refine ⟨_, rfl, _, "str", "str", rfl, rfl, .str _, _, rfl, (fun _ => ?_), fun z => nomatch z⟩
      refine ⟨_, rfl, fun a dx na nd' nax => ?_⟩
      refine ⟨a, dx, x, rfl, upd_same, lx, fun H1 b1 r1 => ⟨rfl, ?_⟩⟩
      refine ⟨Nat.zero_le _, .mk fun w0 H2 n2 s2 f2 => ?_⟩
      have s01 : Same H H1 := fun b o z => b1 b o (ne_of_none z na) (by rw [upd_ne (ne_of_none z na), upd_ne (ne_of_none z nd')]; exact z)
      obtain ⟨oa, ha⟩ := r1.there
      have R0 : RS C H H H2 a w0 x 0 [] [] := ⟨⟨r1.up s2, s01.trans s2, na⟩, Same.refl _, s01.free n2, f2, Ne.symm (ne_some ha n2), (fun q hq => nomatch hq), (fun q hq => nomatch hq), .nil, Nat.zero_le _⟩
      have l0 : (restOf x 0).length = (sgn x).length := rfl
      dsimp only [tSeq, gName]
      refine while_W (fun m σ Hw => ∃ v d st, σ = [some (.str x), some (.ref a), some (.ref w0), some v] ∧ RdW C H a w0 x m v d st Hw ∧ (d ≠ none → st = [])) _ ⟨.non, none, [], rfl, ⟨0, _, H, [], R0, rfl, (by rw [l0]; lia), rfl, rfl⟩, fun z => absurd rfl z⟩ ?_ ?_
      · rintro m σ Hw _ go ⟨v, d, st, rfl, W, hst⟩
        have W0 := W
        obtain ⟨p, n, G, ps, r, e1, l, hm, o⟩ := W
        obtain ⟨n, rfl⟩ : ∃ n', n = n' + 1 := ⟨n - 1, by lia⟩
        refine ⟨_, rfl, rfl, _, rfl, ?_⟩
        cases d with
        | none =>
          have o : v = .non := o
          subst o
          refine iteBT rfl ?_
          rw [read_beg] at e1
          refine ⟨_, rfl, _, rfl, H, G, a, w0, x, p, st, ps, rfl, r, fun cs st' d' eb v' p' G' H' ps' R' er lt dd => ?_, fun eb d1 H' s' hf => e (by rw [e1, eb]; rfl) d1 H' s' hf⟩
          rw [eb] at e1
          have lr : (restOf x p').length < m := by
            unfold restOf at hm ⊢
            rw [List.length_drop] at hm ⊢
            obtain ⟨_, _, _, _, _, le, _⟩ := R'.r.r
            rw [str_len] at le
            lia
          refine while_W (fun m' σ Hw => ∃ v d st, σ = [some (.str x), some (.ref a), some (.ref w0), some v] ∧ RdW C H a w0 x m' v d st Hw ∧ m' < m) _ ⟨v', d', st', rfl, ⟨p', n, G', ps', R', (by rw [e1, er]; rfl), (by lia), rfl, dd⟩, lr⟩ ?_ ?_
          · rintro m1 σ1 Hw1 _ go1 ⟨v1, d1, st1, rfl, W1, lt1⟩
            have W2 := W1
            obtain ⟨p1, n1, G1, ps1, r1', e2, l1, hm1, o1⟩ := W1
            obtain ⟨n1, rfl⟩ : ∃ n', n1 = n' + 1 := ⟨n1 - 1, by lia⟩
            refine ⟨_, rfl, rfl, _, rfl, ?_⟩
            cases d1 with
            | none =>
              have o1 : v1 = .non := o1
              subst o1
              exact iteBF rfl (iteBF rfl (go.n ⟨m1, lt1, .non, none, st1, rfl, W2, fun z => absurd rfl z⟩))
            | some t1 =>
              have o1 : DV G1 v1 t1 := o1
              refine iteBT (by rw [decide_eq_false o1.nn]; rfl) ?_
              refine ⟨_, rfl, Nat.zero_le _, .mk fun z H3 n3 s3 f3 => ⟨w0, z, _, rfl, rfl, SqL.of (s3 _ _ r1'.hw), SqL.of f3, _, rfl, ?_⟩⟩
              have R3 := r1'.up s3
              have k1 := r1'.k
              cases k1 with
              | nil => exact iteBF rfl (go.n ⟨m1, lt1, v1, some t1, [], rfl, ⟨p1, n1 + 1, G1, [], R3, e2, l1, hm1, o1⟩, fun _ => rfl⟩)
              | @cons f1 st2 e3 h3 ps2 a3 ge3 gh3 ne3 oe3 oh3 t3 =>
                refine iteBT (by rw [ents_cons]; simp) ?_
                rw [read_gone] at e2
                refine ⟨_, rfl, _, rfl, _, rfl, H, G1, a, w0, x, p1, f1, st2, _, v1, t1, rfl, R3, o1, fun cs st' d' eb v' p' G' H' ps' R' er lt dd => ?_, fun eb d1 H' s' hf => e (by rw [e2, eb]; rfl) d1 H' s' hf⟩
                rw [eb] at e2
                have lr1 : (restOf x p').length < m1 := by
                  unfold restOf at hm1 ⊢
                  rw [List.length_drop] at hm1 ⊢
                  obtain ⟨_, _, _, _, _, le, _⟩ := R'.r.r
                  rw [str_len] at le
                  lia
                exact go1.n ⟨_, lr1, v', d', st', rfl, ⟨p', n1, G', ps', R', (by rw [e2, er]; rfl), (by lia), rfl, dd⟩, Nat.lt_trans lr1 lt1⟩
          · rintro σ1 H1 Q1 Q2 hq ⟨v1, e1, e2, b, e3, q1⟩
            refine ⟨v1, e1, e2, b, e3, ?_⟩
            cases b with
            | false => exact hq false H1 q1
            | true =>
              obtain ⟨u1, f1, lz, nw⟩ := q1
              refine ⟨u1, f1, lz, fun p' i1 => ?_⟩
              obtain ⟨a1, b1, xs1, j1, j2, j3, j4, b5, j5, j6⟩ := nw p' i1
              exact ⟨a1, b1, xs1, j1, j2, j3, j4, b5, j5, hq _ _ j6⟩
        | some t =>
          obtain rfl := hst (by simp)
          refine iteBF (decide_eq_false (show DV G v t from o).nn) ?_
          obtain ⟨dx1, fs1, h1, _, _, le1, _, _, _, n3, _⟩ := id r.r.r
          refine ⟨_, rfl, a, dx1, fs1, rfl, h1, n3, a, x, p, rfl, r.r.r, ?_⟩
          refine ⟨_, rfl, fun ee => ?_, fun ee d1 H' s' hf => e ?_ d1 H' (r.s.trans (r.r.s.trans s')) hf⟩
          · have ee := of_decide_eq_true ee
            rw [rest_end ee, read_end] at e1
            exact ⟨_, rfl, q t e1 v Hw (r.s.trans r.r.s) (DV.up o r.r.s)⟩
          · have ee := of_decide_eq_false ee
            obtain ⟨c1, _, hc⟩ := rest_at (Nat.lt_of_le_of_ne le1 ee)
            rw [e1, hc, read_more]
      · rintro σ H1 Q1 Q2 hq ⟨v1, e1, e2, b, e3, q1⟩
        exact ⟨v1, e1, e2, b, e3, hq _ _ q1⟩
theorem scBegun : FnScope ["reader", "waiting"] ["reader", "waiting"] (defScope sBegun) := {}
theorem ok_Begun {c : Nat → Addr} {C : Addr} {f : Addr} {fd : FuncData} (F : Fq K "begun" 33 f fd) (T : Txt mg) (DRefuseUnless : DfD P w K mg base "refuse_unless" ["holds_good"] 3 (spRU c)) (DBegunHolder : DfD P w K mg base "begun_holder" ["reader", "waiting", "holder"] 8 (spBH c C)) (DLettersIn : DfD P w K mg base "letters_in" ["reader"] 4 (spLet c C)) (DNumberIn : DfD P w K mg base "number_in" ["reader"] 6 (spNumIn c C)) (RM : RdM P w K mg base C) (hD : ∃ t, mg "DEEPEST" = some (.int 100 t)) : FnOk P w K mg base (CXD P w) 10 f fd ["reader", "waiting"] (spBeg c C) := by
  obtain ⟨fRefuseUnless, dRefuseUnless, kRefuseUnless, bRefuseUnless, mRefuseUnless, GRefuseUnless⟩ := DRefuseUnless.ex
  obtain ⟨fBegunHolder, dBegunHolder, kBegunHolder, bBegunHolder, mBegunHolder, GBegunHolder⟩ := DBegunHolder.ex
  obtain ⟨fLettersIn, dLettersIn, kLettersIn, bLettersIn, mLettersIn, GLettersIn⟩ := DLettersIn.ex
  obtain ⟨fNumberIn, dNumberIn, kNumberIn, bNumberIn, mNumberIn, GNumberIn⟩ := DNumberIn.ex
  obtain ⟨cC, gE, fdE, mE, bE, GE, gP, fdP, mP, bP, GP, gR, fdR, mR, bR, GR⟩ := RM
  obtain ⟨td, hd⟩ := hD
  refine F.okD scBegun (fun vs H Q E h => ?_) (fun cdv A outer s H vs Q E hr h => ?_)
  · obtain ⟨H0, G, a, w0, x, p, st, ps, rfl, r, q, e⟩ := h
    rfl
  · obtain ⟨H0, G, a, w0, x, p, st, ps, rfl, r, q, e⟩ := h
    have nd := scBegun.nd
    have hu := hu_of hr
    have hrRefuseUnless : Room 3 _ := hr.mm
    have hrBegunHolder : Room 8 _ := hr.mm
    have hrLettersIn : Room 4 _ := hr.mm
    have hrNumberIn : Room 6 _ := hr.mm
    have hrE : Room 1 _ := hr.mono (by decide)
    have hrP : Room 2 _ := hr.mono (by decide)
    refine ⟨_, (pss_cons (ps_expr (pe_call GRefuseUnless hrRefuseUnless rfl mRefuseUnless kRefuseUnless bRefuseUnless .nil passD (pa1 (pe_cmpR op_lt (len1 K T (pv 1)) (pe_glob (v := .int 100) rfl hd ⟨td, rfl⟩) (nomark _)))))
      (pss_cons (ps_if (pt_val (pe_meth (pv 0) cC mP GP hrP bP .nil pass0 (pa1 pe_str))) (pss_one (ps_ret (pe_call GBegunHolder hrBegunHolder rfl mBegunHolder kBegunHolder bBegunHolder .nil passD (pa_cons (pv 0) (pa_cons (pv 1) (pa1 (pe_lst pa_nil))))))) pss_nil)
      (pss_cons (ps_if (pt_val (pe_meth (pv 0) cC mP GP hrP bP .nil pass0 (pa1 pe_str))) (pss_one (ps_ret (pe_call GBegunHolder hrBegunHolder rfl mBegunHolder kBegunHolder bBegunHolder .nil passD (pa_cons (pv 0) (pa_cons (pv 1) (pa1 pe_dnewK)))))) pss_nil)
      (pss_cons (ps_if (pt_val (pe_meth (pv 0) cC mP GP hrP bP .nil pass0 (pa1 pe_str))) (pss_one (ps_ret (pe_call GLettersIn hrLettersIn rfl mLettersIn kLettersIn bLettersIn .nil passD (pa1 (pv 0))))) pss_nil)
      (pss_one (ps_ret (pe_call GNumberIn hrNumberIn rfl mNumberIn kNumberIn bNumberIn .nil passD (pa1 (pv 0))))))))), ?_⟩
    have wl : (ents ps).length = st.length := by rw [ents_len, ← r.k.len]
    obtain ⟨dx, fs, h0, _, _, _, lx, n1, _, _, _⟩ := id r.r.r
    refine ⟨_, rfl, w0, _, rfl, .inl (SqL.of r.hw), _, _, rfl, rfl, ?_⟩
    refine ⟨_, rfl, fun e1 => ?_, fun e1 d H1 s1 hf => e (beg_no ?_) d H1 (r.s.trans (r.r.s.trans s1)) hf⟩
    rotate_left
    · have := of_decide_eq_false e1
      rw [wl] at this
      lia
    have sl : st.length < 100 := by
      have := of_decide_eq_true e1
      rw [wl] at this
      exact Int.ofNat_lt.mp this
    clear e1
    have gn : ∀ {b : Addr} {Hx : Hp}, RS C H0 G Hx a w0 x (p + 1) st ps → Hx b = none → G b = none ∧ b ≠ a ∧ b ≠ w0 ∧ Off b ps := fun {b Hx} R n => by
      obtain ⟨oa, ha⟩ := R.r.r.there
      exact ⟨R.r.s.free n, ne_some ha n, ne_some R.hw n, R.k.off n⟩
    refine ⟨_, rfl, a, dx, fs, rfl, h0, n1, a, x, "[", p, 91, rfl, by decide +kernel, r.r.r, fun t H1 e1 b1 r1 => ?_, fun e1 => ?_⟩
    · refine ⟨_, rfl, iteBT rfl ?_⟩
      have R1 := r.but b1 r1 (Nat.le_succ p)
      rw [e1, beg_row sl] at q e
      refine ⟨_, rfl, _, rfl, Nat.zero_le _, .mk fun h H2 n2 s2 f2 => ?_⟩
      obtain ⟨g1, g2, g3, g4⟩ := gn R1 n2
      refine ⟨H0, G, a, w0, h, x, p + 1, st, ps, false, rfl, R1.up s2, Nat.succ_pos _, sl, f2, g1, g2, g3, g4, fun cs st' d z v p' G' H' ps' R' er le dd => q cs st' d ?_ v p' G' H' ps' R' er le dd, ?_⟩
      · rw [rest_tail e1] at z; exact z
      · rw [rest_tail e1]; exact e
    refine ⟨_, rfl, iteBF rfl ?_⟩
    refine ⟨_, rfl, a, dx, fs, rfl, h0, n1, a, x, "{", p, 123, rfl, by decide +kernel, r.r.r, fun t H1 e2 b1 r1 => ?_, fun e2 => ?_⟩
    · refine ⟨_, rfl, iteBT rfl ?_⟩
      have R1 := r.but b1 r1 (Nat.le_succ p)
      rw [e2, beg_tab sl] at q e
      refine ⟨_, rfl, _, rfl, fun h n2 => ?_⟩
      have s2 := Same.new (o := .dK []) n2
      have f2 : upd H1 h (.dK []) h = some (.dK []) := upd_same
      obtain ⟨g1, g2, g3, g4⟩ := gn R1 n2
      refine ⟨H0, G, a, w0, h, x, p + 1, st, ps, true, rfl, R1.up s2, Nat.succ_pos _, sl, f2, g1, g2, g3, g4, fun cs st' d z v p' G' H' ps' R' er le dd => q cs st' d ?_ v p' G' H' ps' R' er le dd, ?_⟩
      · rw [rest_tail e2] at z; exact z
      · rw [rest_tail e2]; exact e
    refine ⟨_, rfl, iteBF rfl ?_⟩
    refine ⟨_, rfl, a, dx, fs, rfl, h0, n1, a, x, "'", p, 39, rfl, by decide +kernel, r.r.r, fun t H1 e3 b1 r1 => ?_, fun e3 => ?_⟩
    · refine ⟨_, rfl, iteBT rfl ?_⟩
      have R1 := r.but b1 r1 (Nat.le_succ p)
      rw [e3, beg_txt sl] at q e
      refine ⟨_, rfl, G, a, x, p + 1, rfl, R1.r, fun w rest ws p' H2 et _ b2 R2 er => ?_, fun et d H2 s2 hf => e ?_ d H2 (r.s.trans s2) hf⟩
      · have lp := Nat.le_of_lt (go_lt (p := p + 1) (p' := p') (by rw [er]; exact txt_len et))
        rw [rest_tail e3] at et
        exact q rest st (some (.txt w)) (by rw [et]; rfl) _ p' _ _ _ (R1.go b2 R2 lp) er lp (show DV _ _ _ from DV.str)
      · rw [rest_tail e3] at et
        rw [et]; rfl
    refine ⟨_, rfl, iteBF rfl ?_⟩
    rw [beg_num sl e1 e2 e3] at q e
    refine ⟨_, rfl, G, a, x, p, rfl, r.r, fun i rest p' H2 et b2 R2 er => ?_, fun et d H2 s2 hf => e ?_ d H2 (r.s.trans s2) hf⟩
    · have lp := go_lt (p := p) (p' := p') (by rw [er]; exact num_len et)
      exact q rest st (some (.num i)) (by rw [et]; rfl) _ p' _ _ _ (r.go b2 R2 (Nat.le_of_lt lp)) er lp (show DV _ _ _ from DV.int)
    · rw [et]; rfl
theorem scBegunHolder : FnScope ["reader", "waiting", "holder"] ["reader", "waiting", "holder"] (defScope sBegunHolder) := {}
theorem ok_BegunHolder {c : Nat → Addr} {C : Addr} {f : Addr} {fd : FuncData} (F : Fq K "begun_holder" 34 f fd) (T : Txt mg) (DEndOf : Df P w K mg base "end_of" ["holder"] 1 spEndOf) (DNameIn : DfD P w K mg base "name_in" ["reader", "holder", "last"] 6 (spNmIn c C)) (RM : RdM P w K mg base C) : FnOk P w K mg base (CXD P w) 8 f fd ["reader", "waiting", "holder"] (spBH c C) := by
  obtain ⟨fNameIn, dNameIn, kNameIn, bNameIn, mNameIn, GNameIn⟩ := DNameIn.ex
  obtain ⟨cC, gE, fdE, mE, bE, GE, gP, fdP, mP, bP, GP, gR, fdR, mR, bR, GR⟩ := RM
  refine F.okD scBegunHolder (fun vs H Q E h => ?_) (fun cdv A outer s H vs Q E hr h => ?_)
  · obtain ⟨H0, G, a, w0, h, x, p, st, ps, tab, rfl, r, hp, sl, hh, gh, na, nw, oh, q, e⟩ := h
    rfl
  · obtain ⟨H0, G, a, w0, h, x, p, st, ps, tab, rfl, r, hp, sl, hh, gh, na, nw, oh, q, e⟩ := h
    have nd := scBegunHolder.nd
    have hu := hu_of hr
    have hrNameIn : Room 6 _ := hr.mm
    have hrE : Room 1 _ := hr.mono (by decide)
    have hrP : Room 2 _ := hr.mono (by decide)
    refine ⟨_, (pss_cons (ps_if (pt_val (pe_meth (pv 0) cC mP GP hrP bP .nil pass0 (pa1 (cal DEndOf hr (pa1 (pv 2)))))) (pss_one (ps_ret (pv 2))) pss_nil)
      (pss_cons (ps_expr (apd K (pv 1) (pe_lst (pa_cons (pv 2) (pa1 (pe_call GNameIn hrNameIn rfl mNameIn kNameIn bNameIn .nil passD (pa_cons (pv 0) (pa_cons (pv 2) (pa1 pe_str)))))))))
      (pss_one (ps_ret pe_non)))), ?_⟩
    obtain ⟨dx, fs, h0, _, _, _, lx, n1, _, _, _⟩ := id r.r.r
    have wl : (ents ps).length < 1000 := by rw [ents_len, ← r.k.len]; exact Nat.lt_trans sl (by decide)
    cases tab with
    | false =>
      have hh : H h = some (.lst []) := hh
      refine ⟨_, rfl, a, dx, fs, rfl, h0, n1, _, rfl, .row h [] rfl hh ?_⟩
      refine ⟨a, x, "]", p, 93, rfl, by decide +kernel, r.r.r, fun t H1 e1 b1 r1 => ?_, fun e1 => ?_⟩
      · have h1 := b1 h _ na hh
        exact ⟨_, rfl, iteBT rfl ⟨_, rfl, q t st (some (.row [])) (by rw [e1]; rfl) _ (p + 1) _ _ _ ((r.but b1 r1 (Nat.le_succ p)).done gh h1 na nw oh) (rest_tail e1) (Nat.le_succ p) (show DV _ _ _ from DV.row upd_same RowV.nil)⟩⟩
      · refine ⟨_, rfl, iteBF rfl ⟨_, rfl, .inl ⟨rfl, _, SqL.of r.hw⟩, ?_⟩⟩
        refine ⟨_, rfl, _, rfl, _, rfl, ?_⟩
        refine .row a h (.str "") [] rfl hh ?_
        refine ⟨two_line, .mk fun e0 H1 n1 s1 f1 => ?_⟩
        refine ⟨w0, _, _, rfl, rfl, s1 _ _ r.hw, Nat.lt_trans wl (by decide), ?_⟩
        have ew : e0 ≠ w0 := ne_some r.hw n1
        refine q _ _ none (bh_row e1) _ p _ _ _ (r.push sl s1 n1 gh na nw oh (by rw [hh]; simp) (.row [] rfl ?_ ?_ hp RowV.nil)) rfl (Nat.le_refl _) rfl
        · rw [upd_ne ew]; exact f1
        · rw [upd_ne nw]; exact s1 _ _ hh
    | true =>
      have hh : H h = some (.dK []) := hh
      refine ⟨_, rfl, a, dx, fs, rfl, h0, n1, _, rfl, .tab h [] rfl hh ?_⟩
      refine ⟨a, x, "}", p, 125, rfl, by decide +kernel, r.r.r, fun t H1 e1 b1 r1 => ?_, fun e1 => ?_⟩
      · have h1 := b1 h _ na hh
        exact ⟨_, rfl, iteBT rfl ⟨_, rfl, q t st (some (.tab [] [])) (by rw [e1]; rfl) _ (p + 1) _ _ _ ((r.but b1 r1 (Nat.le_succ p)).done gh h1 na nw oh) (rest_tail e1) (Nat.le_succ p) (show DV _ _ _ from DV.tab)⟩⟩
      · refine ⟨_, rfl, iteBF rfl ⟨_, rfl, .inl ⟨rfl, _, SqL.of r.hw⟩, ?_⟩⟩
        refine ⟨_, rfl, _, rfl, _, rfl, ?_⟩
        refine .tab G a h [] x "" p rfl hh r.r (fun nm rest ws p' H1 en es b1 R1 er => ?_) (fun en d H1 s1 hf => ?_)
        · have lp := Nat.le_of_lt (go_lt (p := p) (p' := p') (by rw [er]; exact name_len en))
          have R := r.go b1 R1 lp
          refine ⟨two_line, .mk fun e0 H2 n2 s2 f2 => ?_⟩
          refine ⟨w0, _, _, rfl, rfl, s2 _ _ R.hw, Nat.lt_trans wl (by decide), ?_⟩
          have ew : e0 ≠ w0 := ne_some R.hw n2
          have hh1 := b1 _ _ na hh
          refine q rest _ none (by rw [bh_tab e1, show ([] : List Nat) = sgn "" from rfl, en]; rfl) _ p' _ _ _ (R.push sl s2 n2 gh na nw oh (by rw [hh1]; simp) (.tab [] ws rfl ?_ es ?_ (Nat.lt_of_lt_of_le hp lp))) er lp rfl
          · rw [upd_ne ew]; exact f2
          · rw [upd_ne nw]; exact s2 _ _ hh1
        · exact e (by rw [bh_tab e1, show ([] : List Nat) = sgn "" from rfl, en]; rfl) d H1 (r.s.trans s1) hf
theorem scGoneOn : FnScope ["reader", "waiting", "doc", "entry", "holder"] ["reader", "waiting", "doc"] (defScope sGoneOn) := {}
theorem ok_GoneOn {c : Nat → Addr} {C : Addr} {f : Addr} {fd : FuncData} (F : Fq K "gone_on" 35 f fd) (T : Txt mg) (DAddAt : Df P w K mg base "add_at" ["holder", "step", "thing"] 2 spAdd) (DRefuseUnless : DfD P w K mg base "refuse_unless" ["holds_good"] 3 (spRU c)) (DEndOf : Df P w K mg base "end_of" ["holder"] 1 spEndOf) (DNameIn : DfD P w K mg base "name_in" ["reader", "holder", "last"] 6 (spNmIn c C)) (RM : RdM P w K mg base C) : FnOk P w K mg base (CXD P w) 8 f fd ["reader", "waiting", "doc"] (spGone c C) := by
  obtain ⟨fRefuseUnless, dRefuseUnless, kRefuseUnless, bRefuseUnless, mRefuseUnless, GRefuseUnless⟩ := DRefuseUnless.ex
  obtain ⟨fNameIn, dNameIn, kNameIn, bNameIn, mNameIn, GNameIn⟩ := DNameIn.ex
  obtain ⟨cC, gE, fdE, mE, bE, GE, gP, fdP, mP, bP, GP, gR, fdR, mR, bR, GR⟩ := RM
  refine F.okD scGoneOn (fun vs H Q E h => ?_) (fun cdv A outer s H vs Q E hr h => ?_)
  · obtain ⟨H0, G, a, w0, x, p, f0, st, ps, v, t, rfl, r, d, q, e⟩ := h
    rfl
  · obtain ⟨H0, G, a, w0, x, p, f0, st, ps, v, t, rfl, r, d, q, e⟩ := h
    have nd := scGoneOn.nd
    have hu := hu_of hr
    have hrRefuseUnless : Room 3 _ := hr.mm
    have hrNameIn : Room 6 _ := hr.mm
    have hrE : Room 1 _ := hr.mono (by decide)
    have hrP : Room 2 _ := hr.mono (by decide)
    refine ⟨_, (pss_cons (ps_se 3 nd (ixl K (pv 1) (pe_un un_neg pe_int)))
      (pss_cons (ps_se 4 nd (ixl K (pv 3) pe_int))
      (pss_cons (ps_expr (cal DAddAt hr (pa_cons (pv 4) (pa_cons (ixl K (pv 3) pe_int) (pa1 (pv 2))))))
      (pss_cons (ps_if (pt_val (pe_meth (pv 0) cC mP GP hrP bP .nil pass0 (pa1 pe_str))) (pss_cons (ps_asg (pe_call GNameIn hrNameIn rfl mNameIn kNameIn bNameIn .nil passD (pa_cons (pv 0) (pa_cons (pv 4) (pa1 (ixl K (pv 3) pe_int))))) (pg_sub (pv 3) pe_int set_list))
      (pss_one (ps_ret pe_non))) pss_nil)
      (pss_cons (ps_expr (pe_call GRefuseUnless hrRefuseUnless rfl mRefuseUnless kRefuseUnless bRefuseUnless .nil passD (pa1 (pe_meth (pv 0) cC mP GP hrP bP .nil pass0 (pa1 (cal DEndOf hr (pa1 (pv 4))))))))
      (pss_cons (ps_expr (pe_bm0 PySem.F.plainAttrs_list PySem.F.slot_list_pop PySem.F.type_list_pop mt_pop (pv 1)))
      (pss_one (ps_ret (pv 4))))))))), ?_⟩
    have k0 := r.k
    cases k0 with
    | @cons _ _ e0 h ps a0 ge gh n oe oh t0 =>
      have hw := r.hw
      rw [ents_cons] at hw
      obtain ⟨dx, fs, h0, _, _, pl, lx, n1, _, _, _⟩ := id r.r.r
      have w1 := r.ow _ List.mem_cons_self
      have a1 := r.oa _ List.mem_cons_self
      have we : w0 ≠ e0 := w1.1
      have wh : w0 ≠ h := w1.2
      have ae : a ≠ e0 := a1.1
      have ah : a ≠ h := a1.2
      have p1 : p < 1001 := Nat.lt_succ_of_le (Nat.le_trans pl lx)
      have sG : ∀ {Hx : Hp}, (∀ b o, b ≠ e0 → b ≠ h → b ≠ a → H b = some o → Hx b = some o) → Same G Hx := fun kp b o z => kp b o (fun y => by rw [y, ge] at z; cases z) (fun y => by rw [y, gh] at z; cases z) (fun y => by rw [y, r.r.n] at z; cases z) (r.r.s _ _ z)
      refine ⟨_, rfl, _, rfl, w0, _, _, _, rfl, rfl, SqL.of hw, atI_last _ _, ?_⟩
      have dl : (ents ps ++ [V.ref (e0, h).fst])[(ents ps ++ [V.ref (e0, h).fst]).length - 1]? = some (V.ref (e0, h).fst) := by simp
      have dd : (ents ps ++ [V.ref (e0, h).fst]).dropLast = ents ps := List.dropLast_concat
      cases a0 with
      | row vs ht he hh l rv =>
        refine ⟨_, rfl, e0, _, 0, _, rfl, rfl, SqL.of he, at0, ?_⟩
        refine ⟨_, rfl, _, rfl, e0, _, 1, _, rfl, rfl, SqL.of he, at1, _, rfl, ?_⟩
        refine .row h vs .non v rfl hh (Nat.lt_trans l p1) ?_
        have kp : ∀ b o, b ≠ e0 → b ≠ h → b ≠ a → H b = some o → upd H h (.lst (vs ++ [v])) b = some o := fun b o _ h2 _ z => by rw [upd_ne h2]; exact z
        have rd : Rdr C (upd H h (.lst (vs ++ [v]))) a x p := r.r.r.at_ (upd_ne ah)
        have ha1 : upd H h (.lst (vs ++ [v])) a = some (.ins C dx fs) := by rw [upd_ne ah]; exact h0
        have he1 : upd H h (.lst (vs ++ [v])) e0 = some (.lst [.ref h, .non]) := by rw [upd_ne n]; exact he
        have hh1 : upd H h (.lst (vs ++ [v])) h = some (.lst (vs ++ [v])) := upd_same
        generalize upd H h (.lst (vs ++ [v])) = H1 at kp rd ha1 hh1 he1
        have l1 : (vs ++ [v]).length < p + 1 := by rw [List.length_append]; exact Nat.succ_lt_succ l
        have rv1 := rv.snoc d
        dsimp only
        refine ⟨_, rfl, a, dx, fs, rfl, ha1, n1, a, x, " ", p, 32, rfl, by decide +kernel, rd, fun t1 H2 e1 b1 r1 => ?_, fun e1 => ?_⟩
        · refine ⟨_, rfl, iteBT rfl ?_⟩
          have he2 := b1 _ _ (Ne.symm ae) he1
          have hh2 := b1 _ _ (Ne.symm ah) hh1
          refine ⟨_, rfl, _, rfl, _, rfl, e0, _, 1, _, rfl, rfl, SqL.of he2, at1, .row a h .non _ rfl hh2 ?_⟩
          refine ⟨_, rfl, e0, _, 1, 1, rfl, rfl, he2, rfl, ?_⟩
          refine q t1 (f0.add t :: st) none (by rw [e1, gone_row ht]) _ (p + 1) _ _ _ (r.alter (fun b o z1 z2 z3 z => ?_) (r1.at_ (upd_ne ae)) (Nat.le_succ p) (.row (vs ++ [v]) ht upd_same (by rw [upd_ne (Ne.symm n)]; exact hh2) l1 rv1)) (rest_tail e1) (Nat.lt_succ_self p) rfl
          rw [upd_ne z1]
          exact b1 _ _ z3 (kp b o z1 z2 z3 z)
        · refine ⟨_, rfl, iteBF rfl ?_⟩
          refine ⟨_, rfl, a, dx, fs, rfl, ha1, n1, _, rfl, .row h _ rfl hh1 ?_⟩
          refine ⟨a, x, "]", p, 93, rfl, by decide +kernel, rd, fun t2 H2 e2 b2 r2 => ?_, fun e2 => ?_⟩
          · refine ⟨true, rfl, fun _ => ?_, fun z => nomatch z⟩
            have hw2 := b2 _ _ (Ne.symm r.aw) (kp _ _ we wh (Ne.symm r.aw) hw)
            refine ⟨_, rfl, .inl ⟨rfl, _, SqL.of hw2⟩, w0, _, _, rfl, rfl, hw2, dl, ?_⟩
            rw [dd]
            refine ⟨_, rfl, q t2 st (some (f0.add t).dt) (by rw [e2]; exact gone_end (by rw [ht]; rfl)) _ (p + 1) _ _ _ (r.pop (fun b o z1 z2 z3 z => b2 _ _ z3 (kp b o z1 z2 z3 z)) r2 (Nat.le_succ p) (b2 _ _ (Ne.symm ah) hh1)) (rest_tail e2) (Nat.lt_succ_self p) (show DV _ _ _ from ?_)⟩
            have : (f0.add t).dt = .row (f0.xs ++ [t]) := by
              unfold Fr.dt Fr.add
              simp [ht]
            rw [this]
            exact DV.row upd_same (rv1.up (Same.new gh))
          · exact ⟨false, rfl, (fun z => nomatch z), fun _ d1 H' s' hf => e (gone_no (by rw [ht]; rfl) e1 e2) d1 H' (r.s.trans ((sG kp).trans s')) hf⟩
      | tab kvs s1 ht he hs hh l =>
        refine ⟨_, rfl, e0, _, 0, _, rfl, rfl, SqL.of he, at0, ?_⟩
        refine ⟨_, rfl, _, rfl, e0, _, 1, _, rfl, rfl, SqL.of he, at1, _, rfl, ?_⟩
        refine .tab h kvs s1 v rfl hh (Nat.lt_trans l p1) ?_
        have l1 : (putK kvs (Sum.inr s1) v).length < p + 1 := Nat.lt_of_le_of_lt put_len (Nat.succ_lt_succ l)
        generalize putK kvs (Sum.inr s1) v = kvs' at l1
        have kp : ∀ b o, b ≠ e0 → b ≠ h → b ≠ a → H b = some o → upd H h (.dK kvs') b = some o := fun b o _ h2 _ z => by rw [upd_ne h2]; exact z
        have rd : Rdr C (upd H h (.dK kvs')) a x p := r.r.r.at_ (upd_ne ah)
        have ha1 : upd H h (.dK kvs') a = some (.ins C dx fs) := by rw [upd_ne ah]; exact h0
        have he1 : upd H h (.dK kvs') e0 = some (.lst [.ref h, .str s1]) := by rw [upd_ne n]; exact he
        have hh1 : upd H h (.dK kvs') h = some (.dK kvs') := upd_same
        generalize upd H h (.dK kvs') = H1 at kp rd ha1 hh1 he1
        dsimp only
        refine ⟨_, rfl, a, dx, fs, rfl, ha1, n1, a, x, " ", p, 32, rfl, by decide +kernel, rd, fun t1 H2 e1 b1 r1 => ?_, fun e1 => ?_⟩
        · refine ⟨_, rfl, iteBT rfl ?_⟩
          have he2 := b1 _ _ (Ne.symm ae) he1
          have hh2 := b1 _ _ (Ne.symm ah) hh1
          have kp2 : ∀ b o, b ≠ e0 → b ≠ h → b ≠ a → H b = some o → H2 b = some o := fun b o z1 z2 z3 z => b1 _ _ z3 (kp b o z1 z2 z3 z)
          have rt1 := rest_tail e1
          rw [e1, gone_tab ht] at q e
          refine ⟨_, rfl, _, rfl, _, rfl, e0, _, 1, _, rfl, rfl, SqL.of he2, at1, ?_⟩
          refine .tab G a h _ x s1 (p + 1) rfl hh2 ⟨r1, sG kp2, r.r.n⟩ (fun nm rest ws p' H3 en es b3 R3 er => ?_) (fun en d1 H3 s3 hf => e ?_ d1 H3 (r.s.trans s3) hf)
          · have lp := go_lt (p := p + 1) (p' := p') (by rw [er]; exact name_len en)
            rw [rt1, hs] at en
            have he3 := b3 _ _ (Ne.symm ae) he2
            have hh3 := b3 _ _ (Ne.symm ah) hh2
            refine ⟨_, rfl, e0, _, 1, 1, rfl, rfl, he3, rfl, ?_⟩
            refine q rest ({ f0.add t with nm := nm } :: st) none (by rw [en]; rfl) _ p' _ _ _ (r.alter (fun b o z1 z2 z3 z => ?_) (R3.r.at_ (upd_ne ae)) (by lia) (.tab kvs' ws ht upd_same es (by rw [upd_ne (Ne.symm n)]; exact hh3) (by lia))) er (by lia) rfl
            rw [upd_ne z1]
            exact b3 _ _ z3 (kp2 b o z1 z2 z3 z)
          · rw [rt1, hs] at en
            rw [en]; rfl
        · refine ⟨_, rfl, iteBF rfl ?_⟩
          refine ⟨_, rfl, a, dx, fs, rfl, ha1, n1, _, rfl, .tab h _ rfl hh1 ?_⟩
          refine ⟨a, x, "}", p, 125, rfl, by decide +kernel, rd, fun t2 H2 e2 b2 r2 => ?_, fun e2 => ?_⟩
          · refine ⟨true, rfl, fun _ => ?_, fun z => nomatch z⟩
            have hw2 := b2 _ _ (Ne.symm r.aw) (kp _ _ we wh (Ne.symm r.aw) hw)
            refine ⟨_, rfl, .inl ⟨rfl, _, SqL.of hw2⟩, w0, _, _, rfl, rfl, hw2, dl, ?_⟩
            rw [dd]
            refine ⟨_, rfl, q t2 st (some (f0.add t).dt) (by rw [e2]; exact gone_end (by rw [ht]; rfl)) _ (p + 1) _ _ _ (r.pop (fun b o z1 z2 z3 z => b2 _ _ z3 (kp b o z1 z2 z3 z)) r2 (Nat.le_succ p) (b2 _ _ (Ne.symm ah) hh1)) (rest_tail e2) (Nat.lt_succ_self p) (show DV _ _ _ from ?_)⟩
            have : (f0.add t).dt = .tab (f0.ks ++ [f0.nm]) (f0.xs ++ [t]) := by
              unfold Fr.dt Fr.add
              simp [ht]
            rw [this]
            exact DV.tab
          · exact ⟨false, rfl, (fun z => nomatch z), fun _ d1 H' s' hf => e (gone_no (by rw [ht]; rfl) e1 e2) d1 H' (r.s.trans ((sG kp).trans s')) hf⟩
theorem scEndOf : FnScope ["holder"] ["holder"] (defScope sEndOf) := {}
theorem ok_EndOf {f : Addr} {fd : FuncData} (F : Fq K "end_of" 36 f fd) (T : Txt mg) : FnOk P w K mg base CX0 1 f fd ["holder"] spEndOf := by
  refine F.ok scEndOf (fun vs H Q E h => ?_) (fun cdv A outer s H vs En E tn hr h => ?_)
  · cases h <;> (subst_vars; rfl)
  · have nd := scEndOf.nd
    have hu := hu_of hr
    refine ⟨_, (pss_cons (ps_if (pt_val (isi call_isiN T (pv 0) T.list b_list)) (pss_one (ps_ret pe_str)) pss_nil)
      (pss_one (ps_ret pe_str))), ?_⟩
    have h1 : spEndOfI vs H En.rt := h
    clear h
    cases h1 with
    | row o xs x0 h q =>
      subst x0
      exact ⟨_, rfl, _, "list", "list", rfl, rfl, .lst (.inl h), _, rfl, iteBT rfl q⟩
    | tab o kvs x0 h q =>
      subst x0
      exact ⟨_, rfl, _, "list", "dict", rfl, rfl, .dK (.inl h), _, rfl, iteBF rfl q⟩
theorem scNameIn : FnScope ["reader", "holder", "last", "name"] ["reader", "holder", "last"] (defScope sNameIn) := {}
theorem ok_NameIn {c : Nat → Addr} {C : Addr} {f : Addr} {fd : FuncData} (F : Fq K "name_in" 37 f fd) (T : Txt mg) (DIsName : Df P w K mg base "is_name" ["thing"] 2 spName) (DRefuseUnless : DfD P w K mg base "refuse_unless" ["holds_good"] 3 (spRU c)) (RM : RdM P w K mg base C) (hA : ∃ t, mg "LETTERS" = some (.str abcS t)) : FnOk P w K mg base (CXD P w) 6 f fd ["reader", "holder", "last"] (spNmIn c C) := by
  obtain ⟨fRefuseUnless, dRefuseUnless, kRefuseUnless, bRefuseUnless, mRefuseUnless, GRefuseUnless⟩ := DRefuseUnless.ex
  obtain ⟨cC, gE, fdE, mE, bE, GE, gP, fdP, mP, bP, GP, gR, fdR, mR, bR, GR⟩ := RM
  obtain ⟨tab, hab⟩ := hA
  refine F.okD scNameIn (fun vs H Q E h => ?_) (fun cdv A outer s H vs Q E hr h => ?_)
  · cases h <;> (subst_vars; rfl)
  · have nd := scNameIn.nd
    have hu := hu_of hr
    have hrRefuseUnless : Room 3 _ := hr.mm
    have hrE : Room 1 _ := hr.mono (by decide)
    have hrP : Room 2 _ := hr.mono (by decide)
    refine ⟨_, (pss_cons (ps_if (pt_val (isi call_isiN T (pv 1) T.list b_list)) (pss_one (ps_ret pe_non)) pss_nil)
      (pss_cons (ps_se 3 nd (pe_meth (pv 0) cC mR GR hrP bR .nil pass0 (pa1 (pe_glob (v := .str abcS) rfl hab ⟨tab, rfl⟩))))
      (pss_cons (ps_expr (pe_call GRefuseUnless hrRefuseUnless rfl mRefuseUnless kRefuseUnless bRefuseUnless .nil passD (pa1 (pe_and (cal DIsName hr (pa1 (pv 3))) (pe_and (pe_cmpR op_lt_str (pv 2) (pv 3) (nomark _)) (pe_one (pe_meth (pv 0) cC mP GP hrP bP .nil pass0 (pa1 pe_str))))))))
      (pss_one (ps_ret (pv 3)))))), ?_⟩
    have h1 : spNmInI c C vs H Q E := h
    clear h
    cases h1 with
    | row a o v xs x0 h q =>
      subst x0
      exact ⟨_, rfl, _, "list", "list", rfl, rfl, .lst (.inl h), _, rfl, iteBT rfl q⟩
    | tab H0 a o kvs x last p x0 h r q e =>
      subst x0
      refine ⟨_, rfl, _, "list", "dict", rfl, rfl, .dK (.inl h), _, rfl, iteBF rfl ?_⟩
      obtain ⟨dx, fs, h0, _, _, _, lx, _, n2, _, _⟩ := id r.r
      refine ⟨_, rfl, a, dx, fs, rfl, h0, n2, a, x, abcS, p, rfl, r.r, by decide +kernel, fun w0 H1 ew lw bw rw0 => ?_⟩
      rw [show (fun c => decide (c ∈ sgn abcS)) = isL from funext fun _ => abc_is] at ew
      have R1 := r.go bw rw0
      have eg := rest_go (p := p) ew
      rw [← str_len] at eg
      have al : (sgn w0).all isL = true := by
        rw [ew]
        exact List.all_takeWhile
      have en : nameV (.str w0) = nmB (sgn w0) := by
        show nameS (sgn w0) = _
        unfold nameS nmB
        rw [al, Bool.and_true]
      have un : nameIn (sgn last) (restOf x p) = if nmB (sgn w0) && ltL (sgn last) (sgn w0) then (match restOf x (p + w0.length) with | 58 :: r => some (sgn w0, r) | _ => none) else none := by
        unfold nameIn
        rw [← ew, ← eg]
        try rfl
      refine ⟨_, rfl, _, "str", rfl, .str w0, fun y z => by cases z; exact Nat.le_trans lw lx, fun H2 s2 => ?_⟩
      rw [en]
      have R2 := R1.up s2
      refine ⟨_, rfl, ite2B (fun e1 => ?_) (fun e1 => ?_)⟩
      · refine ⟨_, rfl, _, rfl, _, _, rfl, rfl, _, rfl, ite2B (fun e2 => ?_) (fun e2 => ?_)⟩
        · have e2 : ltL (sgn last) (sgn w0) = true := e2
          rw [e1, e2, Bool.and_self, if_pos rfl] at un
          obtain ⟨dx1, fs1, h1, _, _, _, _, m1, _, _, _⟩ := id R2.r
          refine ⟨_, rfl, a, dx1, fs1, rfl, h1, m1, a, x, ":", p + w0.length, 58, rfl, by decide +kernel, R2.r, fun t H3 e3 b3 r3 => ?_, fun e3 => ?_⟩
          · refine ⟨true, rfl, fun _ => ⟨_, rfl, q (sgn w0) t w0 _ H3 ?_ rfl ((bw.same s2).trans b3) (R2.go b3 r3) (rest_tail e3)⟩, fun z => nomatch z⟩
            rw [un, e3]
            rfl
          · refine ⟨false, rfl, (fun z => nomatch z), fun _ d H' s hf => e ?_ d H' (R2.s.trans s) hf⟩
            rw [un]
            split
            · rename_i r' hr'; exact absurd hr' (e3 r')
            · rfl
        · have e2 : ltL (sgn last) (sgn w0) = false := e2
          refine ⟨false, rfl, (fun z => nomatch z), fun _ d H' s hf => e ?_ d H' (R2.s.trans s) hf⟩
          rw [un, e2, Bool.and_false]; rfl
      · refine ⟨false, rfl, (fun z => nomatch z), fun _ d H' s hf => e ?_ d H' (R2.s.trans s) hf⟩
        rw [un, e1, Bool.false_and]; rfl
theorem scLettersIn : FnScope ["reader", "letters"] ["reader"] (defScope sLettersIn) := {}
theorem ok_LettersIn {c : Nat → Addr} {C : Addr} {f : Addr} {fd : FuncData} (F : Fq K "letters_in" 38 f fd) (T : Txt mg) (DRefuseUnless : DfD P w K mg base "refuse_unless" ["holds_good"] 3 (spRU c)) (RM : RdM P w K mg base C) (hA : ∃ t, mg "LETTERS" = some (.str abcS t)) (hL : ∃ t, mg "LONGEST_TEXT" = some (.int 12 t)) : FnOk P w K mg base (CXD P w) 4 f fd ["reader"] (spLet c C) := by
  obtain ⟨fRefuseUnless, dRefuseUnless, kRefuseUnless, bRefuseUnless, mRefuseUnless, GRefuseUnless⟩ := DRefuseUnless.ex
  obtain ⟨cC, gE, fdE, mE, bE, GE, gP, fdP, mP, bP, GP, gR, fdR, mR, bR, GR⟩ := RM
  obtain ⟨tab, hab⟩ := hA
  obtain ⟨tl, hlt⟩ := hL
  refine F.okD scLettersIn (fun vs H Q E h => ?_) (fun cdv A outer s H vs Q E hr h => ?_)
  · obtain ⟨H0, a, x, p, rfl, r, q, e⟩ := h
    rfl
  · obtain ⟨H0, a, x, p, rfl, r, q, e⟩ := h
    have nd := scLettersIn.nd
    have hu := hu_of hr
    have hrRefuseUnless : Room 3 _ := hr.mm
    have hrE : Room 1 _ := hr.mono (by decide)
    have hrP : Room 2 _ := hr.mono (by decide)
    refine ⟨_, (pss_cons (ps_se 1 nd (pe_meth (pv 0) cC mR GR hrP bR .nil pass0 (pa1 (pe_glob (v := .str abcS) rfl hab ⟨tab, rfl⟩))))
      (pss_cons (ps_expr (pe_call GRefuseUnless hrRefuseUnless rfl mRefuseUnless kRefuseUnless bRefuseUnless .nil passD (pa1 (pe_and (pe_cmpR op_le (pe_callB call_len_str rfl T.len PySem.boot_len (pa1 (pv 1))) (pe_glob (v := .int 12) rfl hlt ⟨tl, rfl⟩) (nomark _)) (pe_one (pe_meth (pv 0) cC mP GP hrP bP .nil pass0 (pa1 pe_str)))))))
      (pss_one (ps_ret (pv 1))))), ?_⟩
    obtain ⟨dx, fs, h, _, _, _, lx, _, n2, _, _⟩ := id r.r
    refine ⟨_, rfl, a, dx, fs, rfl, h, n2, a, x, abcS, p, rfl, r.r, by decide +kernel, fun w H1 ew lw bw rw0 => ?_⟩
    rw [show (fun c => decide (c ∈ sgn abcS)) = isL from funext fun _ => abc_is] at ew
    have R1 := r.go bw rw0
    have eg := rest_go (p := p) ew
    rw [← str_len] at eg
    obtain ⟨dx1, fs1, h1, _, _, _, _, m1, _, _, _⟩ := id rw0
    refine ⟨_, rfl, w, rfl, big_line (Nat.le_trans lw lx), _, _, rfl, rfl, _, rfl, ite2B (fun er => ?_) (fun er => ?_)⟩
    · have l12 : (sgn w).length ≤ 12 := by rw [← str_len]; exact Int.ofNat_le.mp (of_decide_eq_true er)
      refine ⟨_, rfl, a, dx1, fs1, rfl, h1, m1, a, x, "'", p + w.length, 39, rfl, by decide +kernel, rw0, fun t H2 e2 b2 r2 => ?_, fun e2 => ?_⟩
      · refine ⟨true, rfl, fun _ => ⟨_, rfl, q (sgn w) t w _ H2 ?_ rfl (bw.trans b2) (R1.go b2 r2) ?_⟩, fun z => nomatch z⟩
        · unfold txtIn
          rw [← ew, if_pos (decide_eq_true l12), ← eg, e2]
          rfl
        · have := congrArg List.tail e2
          unfold restOf at this ⊢
          rw [List.tail_drop] at this
          exact this
      · refine ⟨false, rfl, (fun z => nomatch z), fun _ d H' s hf => e ?_ d H' (R1.s.trans s) hf⟩
        unfold txtIn
        rw [← ew, if_pos (decide_eq_true l12), ← eg]
        split
        · rename_i r' hr'; exact absurd hr' (e2 r')
        · rfl
    · refine ⟨false, rfl, (fun z => nomatch z), fun _ d H' s hf => e ?_ d H' (R1.s.trans s) hf⟩
      unfold txtIn
      rw [← ew, if_neg (fun z => of_decide_eq_false er (Int.ofNat_le.mpr (by rw [str_len]; exact of_decide_eq_true z)))]
theorem scNumberIn : FnScope ["reader", "number"] ["reader"] (defScope sNumberIn) := {}
theorem ok_NumberIn {c : Nat → Addr} {C : Addr} {f : Addr} {fd : FuncData} (F : Fq K "number_in" 39 f fd) (T : Txt mg) (DRefuseUnless : DfD P w K mg base "refuse_unless" ["holds_good"] 3 (spRU c)) (DNumberOf : DfD P w K mg base "number_of" ["figures"] 4 (spNumOf c)) (RM : RdM P w K mg base C) (hF : ∃ t, mg "FIGURES" = some (.str figS t)) : FnOk P w K mg base (CXD P w) 6 f fd ["reader"] (spNumIn c C) := by
  obtain ⟨fRefuseUnless, dRefuseUnless, kRefuseUnless, bRefuseUnless, mRefuseUnless, GRefuseUnless⟩ := DRefuseUnless.ex
  obtain ⟨fNumberOf, dNumberOf, kNumberOf, bNumberOf, mNumberOf, GNumberOf⟩ := DNumberOf.ex
  obtain ⟨cC, gE, fdE, mE, bE, GE, gP, fdP, mP, bP, GP, gR, fdR, mR, bR, GR⟩ := RM
  obtain ⟨tf, hf⟩ := hF
  refine F.okD scNumberIn (fun vs H Q E h => ?_) (fun cdv A outer s H vs Q E hr h => ?_)
  · obtain ⟨H0, a, x, p, rfl, r, q, e⟩ := h
    rfl
  · obtain ⟨H0, a, x, p, rfl, r, q, e⟩ := h
    have nd := scNumberIn.nd
    have hu := hu_of hr
    have hrRefuseUnless : Room 3 _ := hr.mm
    have hrNumberOf : Room 4 _ := hr.mm
    have hrE : Room 1 _ := hr.mono (by decide)
    have hrP : Room 2 _ := hr.mono (by decide)
    refine ⟨_, (pss_cons (ps_if (pt_not (pt_val (pe_meth (pv 0) cC mP GP hrP bP .nil pass0 (pa1 pe_str)))) (pss_one (ps_ret (pe_call GNumberOf hrNumberOf rfl mNumberOf kNumberOf bNumberOf .nil passD (pa1 (pe_meth (pv 0) cC mR GR hrP bR .nil pass0 (pa1 (pe_glob (v := .str figS) rfl hf ⟨tf, rfl⟩))))))) pss_nil)
      (pss_cons (ps_se 1 nd (pe_call GNumberOf hrNumberOf rfl mNumberOf kNumberOf bNumberOf .nil passD (pa1 (pe_meth (pv 0) cC mR GR hrP bR .nil pass0 (pa1 (pe_glob (v := .str figS) rfl hf ⟨tf, rfl⟩))))))
      (pss_cons (ps_expr (pe_call GRefuseUnless hrRefuseUnless rfl mRefuseUnless kRefuseUnless bRefuseUnless .nil passD (pa1 (pe_cmpR op_gt (pv 1) pe_int (nomark _)))))
      (pss_one (ps_ret (pe_un un_neg (pv 1))))))), ?_⟩
    have fs1 : (fun c => decide (c ∈ sgn figS)) = isF := funext fun _ => fig_is
    obtain ⟨dx, fs, h, _, _, _, lx, n1, n2, _, _⟩ := id r.r
    refine ⟨_, rfl, a, dx, fs, rfl, h, n1, a, x, "-", p, 45, rfl, by decide +kernel, r.r, fun t H1 e1 b1 r1 => ⟨_, rfl, iteBF rfl ?_⟩, fun e1 => ⟨_, rfl, iteBT rfl ?_⟩⟩
    · have R1 := r.go b1 r1
      have rt := rest_tail e1
      obtain ⟨dx1, fs1', h1, _, _, _, _, _, m2, _, _⟩ := id r1
      refine ⟨_, rfl, a, dx1, fs1', rfl, h1, m2, a, x, figS, p + 1, rfl, r1, by decide +kernel, fun w H2 ew lw bw rw0 => ⟨w, rfl, Nat.le_trans lw lx, fun hf H3 s3 => ?_, fun hf d H' s hF => e ?_ d H' ((R1.go bw rw0).s.trans s) hF⟩⟩
      · rw [fs1, rt] at ew
        have R3 := (R1.go bw rw0).up s3
        have fp := fig_pos hf
        refine ⟨_, rfl, _, _, rfl, rfl, _, rfl, fun hp => ⟨_, rfl, _, rfl, ?_⟩, fun hp d H' s hF => e ?_ d H' (R3.s.trans s) hF⟩
        · have hp : 0 < PySem.NumText.digitsVal (sgn w) := Int.ofNat_lt.mp (of_decide_eq_true hp)
          have n48 := fp.mp hp
          refine q _ (t.dropWhile isF) _ H3 ?_ ((b1.trans bw).same s3) R3 ?_
          · rw [e1]
            show (if figB (t.takeWhile isF) && !(t.takeWhile isF == [48]) then _ else _) = _
            rw [← ew, hf]
            simp [n48]
          · have := rest_go (x := x) (p := p + 1) (w := sgn w) (f := isF) (by rw [rt]; exact ew)
            rw [← str_len, rt] at this
            exact this
        · have hp : ¬ 0 < PySem.NumText.digitsVal (sgn w) := fun z => of_decide_eq_false hp (Int.ofNat_lt.mpr z)
          have z48 : sgn w = [48] := Classical.byContradiction fun z => hp (fp.mpr z)
          rw [e1]
          show (if figB (t.takeWhile isF) && !(t.takeWhile isF == [48]) then _ else _) = _
          rw [← ew, z48]
          rfl
      · rw [fs1, rt] at ew
        rw [e1]
        show (if figB (t.takeWhile isF) && !(t.takeWhile isF == [48]) then _ else _) = _
        rw [← ew, hf]
        rfl
    · have en := numIn_else e1
      refine ⟨_, rfl, a, dx, fs, rfl, h, n2, a, x, figS, p, rfl, r.r, by decide +kernel, fun w H2 ew lw bw rw0 => ⟨w, rfl, Nat.le_trans lw lx, fun hf H3 s3 => ?_, fun hf d H' s hF => e ?_ d H' ((r.go bw rw0).s.trans s) hF⟩⟩
      · rw [fs1] at ew
        refine q _ ((restOf x p).dropWhile isF) _ H3 ?_ (bw.same s3) ((r.go bw rw0).up s3) ?_
        · rw [en, ← ew, if_pos hf]
        · have := rest_go (x := x) (p := p) (w := sgn w) (f := isF) ew
          rw [← str_len] at this
          exact this
      · rw [fs1] at ew
        rw [en, ← ew, if_neg (by rw [hf]; decide)]
theorem scNumberOf : FnScope ["figures"] ["figures"] (defScope sNumberOf) := {}
theorem ok_NumberOf {c : Nat → Addr} {f : Addr} {fd : FuncData} (F : Fq K "number_of" 40 f fd) (T : Txt mg) (DRefuseUnless : DfD P w K mg base "refuse_unless" ["holds_good"] 3 (spRU c)) (hF : ∃ t, mg "FIGURES" = some (.str figS t)) (hM : ∃ t, mg "MOST_FIGURES" = some (.int 60 t)) : FnOk P w K mg base (CXD P w) 4 f fd ["figures"] (spNumOf c) := by
  obtain ⟨fRefuseUnless, dRefuseUnless, kRefuseUnless, bRefuseUnless, mRefuseUnless, GRefuseUnless⟩ := DRefuseUnless.ex
  obtain ⟨tf, hf⟩ := hF
  obtain ⟨tm, hm⟩ := hM
  refine F.okD scNumberOf (fun vs H Q E h => ?_) (fun cdv A outer s H vs Q E hr h => ?_)
  · obtain ⟨w0, rfl, lw, q, e⟩ := h
    rfl
  · obtain ⟨w0, rfl, lw, q, e⟩ := h
    have nd := scNumberOf.nd
    have hu := hu_of hr
    have hrRefuseUnless : Room 3 _ := hr.mm
    refine ⟨_, (pss_cons (ps_expr (pe_call GRefuseUnless hrRefuseUnless rfl mRefuseUnless kRefuseUnless bRefuseUnless .nil passD (pa1 (pe_and (pe_chain op_le op_le pe_int (pe_callB call_len_str rfl T.len PySem.boot_len (pa1 (pv 0))) (pe_glob (v := .int 60) rfl hm ⟨tm, rfl⟩)) (pe_one (pe_callB (call_all rfl) rfl T.all b_all (pa1 (cmp [] [] (pi_str (pv 0)) fun _ _ _ _ => (pe_cmpR op_in_str (pv 0) (pe_glob (v := .str figS) rfl hf ⟨tf, rfl⟩) rfl)))))))))
      (pss_cons (ps_expr (pe_call GRefuseUnless hrRefuseUnless rfl mRefuseUnless kRefuseUnless bRefuseUnless .nil passD (pa1 (pe_or (pe_cmpR op_eq (pv 0) pe_str (nomark _)) (pe_one (pe_cmpR op_ne (pe_ix ix_str (pv 0) pe_int (fun _ _ => rfl)) pe_str (nomark _)))))))
      (pss_one (ps_ret (pe_callTy call_intT rfl T.int b_int (pa1 (pv 0))))))), ?_⟩
    have sl : w0.cps.size = (sgn w0).length := Array.length_toList.symm
    have sL : w0.length = (sgn w0).length := str_len
    refine ⟨_, rfl, w0, rfl, big_line lw, 1, _, rfl, rfl, _, rfl, ite2B (fun e1 => ?_) (fun e1 => ?_)⟩
    · have h1 : 1 ≤ (sgn w0).length := by rw [← sL]; exact Int.ofNat_le.mp (of_decide_eq_true e1)
      refine ⟨_, _, rfl, rfl, _, rfl, ite2B (fun e2 => ?_) (fun e2 => ?_)⟩
      · have h2 : (sgn w0).length ≤ 60 := by rw [← sL]; exact Int.ofNat_le.mp (of_decide_eq_true e2)
        refine ⟨.str w0, rfl, w0, rfl, ?_⟩
        refine comp_pure (n := w0.cps.size) (fun i => .str ⟨#[w0.cps.getD i 0]⟩) (fun i => .bl (isF (w0.cps.getD i 0))) (fun _ => true) ?_ (fun i D ys hi hD => hi) (fun i D ys v H' hi hD y => ?_) (fun D ys hD => rfl) (fun i D ys R hi hD r => by exact r)
          (fun i D ys R hi hD _ r => ?_) (fun D hD => ?_)
        · rw [sl]; exact Nat.le_of_lt (small1000 (by lia))
        · obtain ⟨e, c, hc, e2⟩ := y
          subst e e2
          have : w0.cps.getD i 0 = c := by rw [Array.getD_eq_getD_getElem?, hc]; rfl
          exact ⟨by rw [this], rfl⟩
        · refine ⟨_, rfl, _, _, rfl, rfl, ?_⟩
          rw [StrLaws.found_one]
          have := fig_is (c := w0.cps.getD i 0)
          rw [show decide (w0.cps.getD i 0 ∈ figS.cps.toList) = isF (w0.cps.getD i 0) from this]
          exact r
        · refine ⟨D, (sgn w0).map isF, rfl, ?_, ?_⟩
          · have e : List.map (fun i => V.bl (isF (w0.cps.getD i 0))) (List.filter (fun _ => true) (List.range w0.cps.size)) = List.map V.bl (List.map isF (sgn w0)) := by
              rw [List.filter_eq_self.mpr fun _ _ => rfl, List.map_map]
              refine List.ext_getElem (by simp) fun i h1 h2 => ?_
              simp only [List.getElem_map, List.getElem_range, Function.comp]
              congr 2
              have hi : i < w0.cps.size := by simpa using h1
              rw [Array.getD_eq_getD_getElem?, Array.getElem?_eq_getElem hi]
              simp
            rw [e]
            exact SqL.of upd_same
          · rw [List.all_map]
            have sD : Same H (upd H D (.lst (List.map (fun i => V.bl (isF (w0.cps.getD i 0))) (List.filter (fun _ => true) (List.range w0.cps.size))))) := fun b o e => by rw [upd_ne (ne_of_none e hD)]; exact e
            generalize upd H D (.lst (List.map (fun i => V.bl (isF (w0.cps.getD i 0))) (List.filter (fun _ => true) (List.range w0.cps.size)))) = H1 at sD
            have ea : (sgn w0).all (id ∘ isF) = (sgn w0).all isF := rfl
            rw [ea]
            refine ⟨_, rfl, fun ha => ?_, fun ha d H' s hf => e ?_ d H' (sD.trans s) hf⟩
            · have ad : PySem.NumText.AllDigits (sgn w0) := fun c hc => by
                have := List.all_eq_true.mp ha c hc
                unfold isF at this
                simp only [Bool.and_eq_true, decide_eq_true_eq] at this
                exact this
              have nn : sgn w0 ≠ [] := fun z => by rw [z] at h1; cases h1
              have fb : figB (sgn w0) = (sgn w0 == [48] || !((sgn w0).head? == some 48)) := by
                unfold figB
                rw [decide_eq_true h1, decide_eq_true h2, ha]; simp
              have fin : figB (sgn w0) = true → tRet (tCB rIntT (tCons (tVar 0) tNil)) { nx := fun x H' => Q V.non H', rt := Q } (L2.start ["figures"] [V.str w0]) H1 := fun h =>
                ⟨_, rfl, w0, rfl, ad, nn, by rw [sL]; lia, q h H1 sD⟩
              have e0 : decide (V.str w0 = V.str "0") = (sgn w0 == [48]) := by
                by_cases z : sgn w0 = [48]
                · rw [decide_eq_true (by rw [str_one z]; rfl), z]; rfl
                · rw [decide_eq_false fun y => z (by rw [V.str.inj y]; decide +kernel)]
                  simp [z]
              refine ⟨_, rfl, rfl, _, rfl, ite2B (fun z0 => ?_) (fun z0 => ?_)⟩
              · rw [e0] at z0
                exact ⟨true, rfl, fun _ => fin (by rw [fb, z0]; rfl), fun z => nomatch z⟩
              · rw [e0] at z0
                rw [z0, Bool.false_or] at fb
                obtain ⟨c0, rest, hw⟩ : ∃ c0 rest, sgn w0 = c0 :: rest := by
                  cases hz : sgn w0 with
                  | nil => exact absurd hz nn
                  | cons c0 rest => exact ⟨c0, rest, rfl⟩
                refine ⟨_, rfl, w0, 0, c0, rfl, rfl, big_line lw, by show atI (sgn w0) 0 = some c0; rw [hw]; exact atI_nat (j := 0) rfl, rfl, ?_⟩
                have ec : (!decide (V.str ⟨#[c0]⟩ = V.str "0")) = figB (sgn w0) := by
                  rw [fb, hw, show V.str ("0" : Str) = V.str ⟨#[48]⟩ from rfl, one_dec]
                  by_cases z : c0 = 48 <;> simp [z]
                rw [ec]
                exact ⟨_, rfl, fin, fun h d H' s hf => e h d H' (sD.trans s) hf⟩
            · unfold figB
              rw [ha]; simp
      · refine ⟨false, rfl, (fun z => nomatch z), fun _ d H' s hf => e ?_ d H' s hf⟩
        have h2 : ¬ (sgn w0).length ≤ 60 := by rw [← sL]; exact fun z => of_decide_eq_false e2 (Int.ofNat_le.mpr z)
        unfold figB
        rw [decide_eq_false h2]; simp
    · refine ⟨_, rfl, iteBF rfl ⟨false, rfl, (fun z => nomatch z), fun _ d H' s hf => e ?_ d H' s hf⟩⟩
      have h1 : ¬ 1 ≤ (sgn w0).length := by rw [← sL]; exact fun z => of_decide_eq_false e1 (Int.ofNat_le.mpr z)
      unfold figB
      rw [decide_eq_false h1]; simp
theorem scReadPath : FnScope ["text"] ["text"] (defScope sReadPath) := {}
theorem ok_ReadPath {c : Nat → Addr} {f : Addr} {fd : FuncData} (F : Fq K "read_path" 41 f fd) (T : Txt mg) (DRefuseUnless : DfD P w K mg base "refuse_unless" ["holds_good"] 3 (spRU c)) (DStepOf : DfD P w K mg base "step_of" ["text"] 5 (spStep c)) : FnOk P w K mg base (CXD P w) 7 f fd ["text"] (spRPath c K) := by
  obtain ⟨fRefuseUnless, dRefuseUnless, kRefuseUnless, bRefuseUnless, mRefuseUnless, GRefuseUnless⟩ := DRefuseUnless.ex
  obtain ⟨fStepOf, dStepOf, kStepOf, bStepOf, mStepOf, GStepOf⟩ := DStepOf.ex
  refine F.okD scReadPath (fun vs H Q E h => ?_) (fun cdv A outer s H vs Q E hr h => ?_)
  · cases h <;> (subst_vars; rfl)
  · have nd := scReadPath.nd
    have hu := hu_of hr
    have hrRefuseUnless : Room 3 _ := hr.mm
    have hrStepOf : Room 5 _ := hr.mm
    refine ⟨_, (pss_cons (ps_expr (pe_call GRefuseUnless hrRefuseUnless rfl mRefuseUnless kRefuseUnless bRefuseUnless .nil passD (pa1 (pe_and (isi call_isiN T (pv 0) T.str b_str) (pe_one (pe_cmpR op_eq (pe_slice sl_str (pv 0) po_none (po_some pe_int)) pe_str (nomark _)))))))
      (pss_cons (ps_if (pt_cmpR op_eq (pv 0) pe_str (nomark _)) (pss_one (ps_ret (pe_tup pa_nil))) pss_nil)
      (pss_one (ps_ret (pe_callTy call_tuple_of rfl T.tuple b_tuple (pa1 (pe_compX (fv := []) (fs := []) rfl (.of (by rfl)) (pi_list (pe_bm PySem.F.plainAttrs_str PySem.F.slot_str_split PySem.F.type_str_split mt_split (pe_slice sl_str (pv 0) (po_some pe_int) po_none) (pa1 pe_str))) (fun C s0 H0 fp => (px_call GStepOf hrStepOf rfl mStepOf kStepOf bStepOf (pa1 (pv 0))))))))))), ?_⟩
    have h1 : spRPathI c K vs H Q E := h
    clear h
    cases h1 with
    | odd v T x0 t n e =>
      subst x0
      refine ⟨_, rfl, _, "str", T, rfl, rfl, t, ?_⟩
      rw [n]
      exact ⟨_, rfl, iteBF rfl ⟨false, rfl, (fun z => nomatch z), fun _ d H' s' hf => e rfl d H' s' hf⟩⟩
    | txt x x0 lx q e =>
      subst x0
      refine ⟨_, rfl, _, "str", "str", rfl, rfl, .str _, _, rfl, iteBT rfl ⟨_, rfl, (1 : Int), rfl, x, rfl, big_line lx, rfl, ?_⟩⟩
      rw [head_is]
      refine ⟨_, rfl, fun e1 => ?_, fun e1 d H' s' hf => e (if_neg (of_decide_eq_false e1)) d H' s' hf⟩
      have e1 := of_decide_eq_true e1
      have ep : pathV x = if x = "/" then some [] else allS (Txt.split (Txt.slice x (some 1) none) "/") := if_pos e1
      rw [ep] at q e
      refine ⟨_, rfl, rfl, _, rfl, ?_⟩
      rw [str_dec]
      by_cases hx : x = "/"
      · rw [if_pos hx] at q
        refine iteBT (decide_eq_true hx) ⟨Nat.zero_le _, .mk fun p H1 n1 s1 f1 => q [] rfl p H1 s1 (SqT.of f1)⟩
      · rw [if_neg hx] at q e
        refine iteBF (decide_eq_false hx) ?_
        have sl := slice_len (x := x) (l := some 1) (u := none)
        have jl := StrLaws.join_split (Txt.slice x (some 1) none) "/"
        refine ⟨_, rfl, (1 : Int), rfl, x, rfl, big_line lx, rfl, Txt.slice x (some 1) none, "/", rfl, rfl, rfl, Nat.le_trans (Nat.add_le_add_right (Nat.le_trans sl lx) 2) (by decide), .mk fun a H1 n1 s1 f1 => ?_⟩
        refine ⟨a, rfl, ⟨_, SqL.of f1⟩, compX_steps (c := c) f1 ?_ ?_ (fun vs ev D H2 s2 d2 => ?_) (fun en d H' s' hf => e en d H' (s1.trans s') hf)⟩
        · have := parts_len (y := "/") (by decide) (ps := Txt.split (Txt.slice x (some 1) none) "/")
          rw [jl] at this
          exact Nat.lt_of_le_of_lt (Nat.le_trans this (Nat.add_le_add_right (Nat.le_trans sl lx) 1)) (by decide)
        · intro z hz
          have := part_len (y := "/") hz
          rw [jl] at this
          exact Nat.le_trans this (Nat.le_trans sl lx)
        · exact ⟨D, vs, rfl, .inl ⟨SqL.of d2, fun l hl => q vs ev l _ (s1.trans (s2.trans (Same.new hl))) (SqT.of upd_same)⟩⟩
theorem scStepOf : FnScope ["text"] ["text"] (defScope sStepOf) := {}
theorem ok_StepOf {c : Nat → Addr} {f : Addr} {fd : FuncData} (F : Fq K "step_of" 42 f fd) (T : Txt mg) (DIsName : Df P w K mg base "is_name" ["thing"] 2 spName) (DNumberOf : DfD P w K mg base "number_of" ["figures"] 4 (spNumOf c)) : FnOk P w K mg base (CXD P w) 5 f fd ["text"] (spStep c) := by
  obtain ⟨fNumberOf, dNumberOf, kNumberOf, bNumberOf, mNumberOf, GNumberOf⟩ := DNumberOf.ex
  refine F.okD scStepOf (fun vs H Q E h => ?_) (fun cdv A outer s H vs Q E hr h => ?_)
  · obtain ⟨s1, rfl, ls, q, e⟩ := h
    rfl
  · obtain ⟨s1, rfl, ls, q, e⟩ := h
    have nd := scStepOf.nd
    have hu := hu_of hr
    have hrNumberOf : Room 4 _ := hr.mm
    refine ⟨_, (pss_cons (ps_if (pt_val (cal DIsName hr (pa1 (pv 0)))) (pss_one (ps_ret (pv 0))) pss_nil)
      (pss_one (ps_ret (pe_call GNumberOf hrNumberOf rfl mNumberOf kNumberOf bNumberOf .nil passD (pa1 (pv 0)))))), ?_⟩
    refine ⟨_, rfl, _, "str", rfl, .str s1, fun y z => by cases z; exact ls, fun H2 s2 => ?_⟩
    have en : nameV (.str s1) = nameS (sgn s1) := rfl
    rw [en]
    refine ⟨_, rfl, ite2B (fun e1 => ?_) (fun e1 => ?_)⟩
    · exact ⟨_, rfl, q _ (if_pos e1) H2 s2⟩
    · have e1' : ¬ nameS (sgn s1) = true := by rw [e1]; decide
      refine ⟨_, rfl, s1, rfl, ls, fun ef H3 s3 => q _ ((if_neg e1').trans (if_pos ef)) H3 (s2.trans s3), fun ef d H3 s3 hf => e ((if_neg e1').trans (if_neg (by rw [ef]; decide))) d H3 (s2.trans s3) hf⟩
theorem scReadRows : FnScope ["text", "rows", "at", "part"] ["text"] (defScope sReadRows) := {}
theorem ok_ReadRows {c fi : Nat → Addr} {cB : Addr} {f : Addr} {fd : FuncData} (F : Fq K "read_rows" 43 f fd) (T : Txt mg) (DRefuseUnless : DfD P w K mg base "refuse_unless" ["holds_good"] 3 (spRU c)) (DReadRow : DfD P w K mg base "read_row" ["text"] 16 (spRRow c)) (N : Nm mg c cB) (kn : Kn K c cB fi) (I5N : In1N P w K mg base (fi 5) ["self", "at"] (spInit1 (c 5))) (I5 : In1 P w K mg base (fi 5) ["self", "at"] (spInit1 (c 5))) (henum : mg "enumerate" = none) : FnOk P w K mg base (CXD P w) 18 f fd ["text"] (spRRows c) := by
  obtain ⟨fRefuseUnless, dRefuseUnless, kRefuseUnless, bRefuseUnless, mRefuseUnless, GRefuseUnless⟩ := DRefuseUnless.ex
  obtain ⟨fReadRow, dReadRow, kReadRow, bReadRow, mReadRow, GReadRow⟩ := DReadRow.ex
  obtain ⟨fdN, GN, bN⟩ := I5N
  obtain ⟨fdNoText, GINoText, bINoText, hINoText⟩ := I5
  refine F.okD scReadRows (fun vs H Q E h => ?_) (fun cdv A outer s H vs Q E hr h => ?_)
  · cases h <;> (subst_vars; rfl)
  · have nd := scReadRows.nd
    have hu := hu_of hr
    have hrRefuseUnless : Room 3 _ := hr.mm
    have hrReadRow : Room 16 _ := hr.mm
    have hrI : Room 2 _ := hr.mono (by decide)
    have hrIN : RoomN 2 _ := ⟨hrI.dp, hrI.un, hrI.gd⟩
    have qINoText : ownInI K (c 5) (fi 5) = true := kn.own 3 (by decide)
    refine ⟨_, (pss_cons (ps_expr (pe_call GRefuseUnless hrRefuseUnless rfl mRefuseUnless kRefuseUnless bRefuseUnless .nil passD (pa1 (isi call_isiN T (pv 0) T.str b_str))))
      (pss_cons (ps_if (pt_cmpR op_eq (pv 0) pe_str (nomark _)) (pss_one (ps_ret (pe_lst pa_nil))) pss_nil)
      (pss_cons (ps_se 1 nd (pe_lst pa_nil))
      (pss_cons (ps_for ownD rfl (pi_enumL rfl henum b_enumerate (pa1 (pe_bm PySem.F.plainAttrs_str PySem.F.slot_str_split PySem.F.type_str_split mt_split (pv 0) (pa1 pe_str)))) (pg_tup rfl (pgs_cons (pg_na 2 nd) (pgs_cons (pg_na 3 nd) pgs_nil))) (pss_one (ps_tryW rfl rfl rfl (psx_expr (px_bm PySem.F.plainAttrs_list PySem.F.slot_list_append PySem.F.type_list_append mt_append (pv 1) (px_call GReadRow hrReadRow rfl mReadRow kReadRow bReadRow (pa1 (pv 3))))) (ph_raise rfl N.NoText (kn.ex 5 (by decide)) rfl rfl N.NoText qINoText GN hrIN bN hINoText raisesN ownN (fun _ _ => (pa1 (pv 2)))))))
      (pss_one (ps_ret (pv 1))))))), ?_⟩
    have h1 : spRRowsI c vs H Q E := h
    clear h
    cases h1 with
    | odd v T x0 t n e =>
      subst x0
      refine ⟨_, rfl, _, "str", T, rfl, rfl, t, _, rfl, (fun z => ?_), fun _ d H' s' hf => e rfl d H' s' hf⟩
      rw [n] at z; cases z
    | txt x i0 x0 lx ne b e =>
      subst x0
      refine ⟨_, rfl, _, "str", "str", rfl, rfl, .str _, _, rfl, (fun _ => ?_), fun z => nomatch z⟩
      refine ⟨_, rfl, rfl, _, rfl, ?_⟩
      rw [str_dec]
      refine iteBF (decide_eq_false ne) ⟨Nat.zero_le _, .mk fun D H1 nD sD fD => ?_⟩
      have jl := StrLaws.join_split x "; "
      have pn := parts_len (y := "; ") (by decide) (ps := Txt.split x "; ")
      have pl : ∀ p ∈ Txt.split x "; ", p.length ≤ 1000 := fun p hp => by
        have := part_len (y := "; ") hp
        rw [jl] at this
        exact Nat.le_trans this lx
      rw [jl] at pn
      refine ⟨_, rfl, rfl, x, "; ", rfl, rfl, rfl, Nat.le_trans (Nat.add_le_add_right lx 2) (by decide), .mk fun l H2 n2 s2 f2 => ?_⟩
      generalize Txt.split x "; " = ps at b pn pl f2
      have s02 := sD.trans s2
      refine ⟨l, _, rfl, SqL.of f2, for_enumG (fun i σ Hi => ∃ (ds : List V) (o3 o4 : Option V), σ = [some (.str x), some (.ref D), o3, o4] ∧ Same H Hi ∧ Hi l = some (.lst (ps.map V.str)) ∧ Hi D = some (.lst ds) ∧ ds.length = i ∧ badAt (ps.drop i) i = some i0)
        ⟨[], none, none, rfl, s02, f2, s2 _ _ fD, rfl, b⟩ (fun i σ Hi _ ⟨_, _, _, _, _, fl, _⟩ => SqL.of fl) ?_ ?_⟩
      rotate_left
      · rintro σ Hi ⟨ds, o3, o4, rfl, si, fl, fd, ld, eb⟩
        rw [List.length_map, List.drop_length] at eb
        cases eb
      rintro i v σ Hi en T go hx ⟨ds, o3, o4, rfl, si, fl, fd, ld, eb⟩ hT
      refine ⟨T, _, rfl, SqT.of upd_same, rfl, _, _, rfl, _, _, rfl, rfl, ?_⟩
      have sT := Same.new (o := .tup [.int (i : Int), v]) hT
      generalize upd Hi T (.tup [.int (i : Int), v]) = HT at sT
      have hi : i < ps.length := by have := (List.getElem?_eq_some_iff.mp hx).1; rw [List.length_map] at this; exact this
      rw [List.getElem?_map, List.getElem?_eq_getElem hi] at hx
      obtain rfl : V.str ps[i] = v := by simpa using hx
      rw [List.drop_eq_getElem_cons hi] at eb
      have sHT := si.trans sT
      refine ⟨_, rfl, .inl ⟨rfl, _, SqL.of (sT _ _ fd)⟩, _, rfl, ps[i], rfl, pl _ (List.getElem_mem hi), fun er v' H' s' => ?_, fun er d H' s' hf => ?_⟩
      · have eb' : badAt (ps.drop (i + 1)) (i + 1) = some i0 := by
          rw [← eb]
          exact (if_pos (by rw [er]; rfl)).symm
        refine ⟨D, ds, v', rfl, rfl, s' _ _ (sT _ _ fd), small1000 (by rw [ld]; lia), ?_⟩
        have nl : l ≠ D := fun z => by rw [z, fD] at n2; cases n2
        exact go.n ⟨ds ++ [v'], _, _, rfl, (sHT.trans s').put nD, by rw [upd_ne nl]; exact s' _ _ (sT _ _ fl), upd_same, by simp [ld], eb'⟩
      · have ei : i = i0 := by
          have : badAt (ps[i] :: ps.drop (i + 1)) i = some i := if_neg (by rw [er]; decide)
          rw [this] at eb
          exact Option.some.inj eb
        refine ⟨c 5, rfl, kn.ex 5 (by decide), .hit ((kn.sub2 5 (by decide) 5 (by decide)).trans (by decide)) ⟨_, rfl, raiN1 one_line fun dx hd => ?_⟩⟩
        exact e (some dx) _ ((sHT.trans s').trans (Same.new hd)) (.inr ⟨by decide, dx, rfl, by rw [← ei]; exact upd_same⟩)
theorem scReadRow : FnScope ["text", "word", "rest", "path"] ["text"] (defScope sReadRow) := {}
theorem ok_ReadRow {c : Nat → Addr} {tLE : Addr} {f : Addr} {fd : FuncData} (F : Fq K "read_row" 44 f fd) (T : Txt mg) (DRefuseUnless : DfD P w K mg base "refuse_unless" ["holds_good"] 3 (spRU c)) (DReadPath : DfD P w K mg base "read_path" ["text"] 7 (spRPath c K)) (DReadThing : DfD P w K mg base "read_thing" ["word", "text"] 14 (spRTh c)) (mLE : mg "LENGTHS" = some (.ref tLE)) (hLE : DicK P w K tLE lens) : FnOk P w K mg base (CXD P w) 16 f fd ["text"] (spRRow c) := by
  obtain ⟨fRefuseUnless, dRefuseUnless, kRefuseUnless, bRefuseUnless, mRefuseUnless, GRefuseUnless⟩ := DRefuseUnless.ex
  obtain ⟨fReadPath, dReadPath, kReadPath, bReadPath, mReadPath, GReadPath⟩ := DReadPath.ex
  obtain ⟨fReadThing, dReadThing, kReadThing, bReadThing, mReadThing, GReadThing⟩ := DReadThing.ex
  refine F.okD scReadRow (fun vs H Q E h => ?_) (fun cdv A outer s H vs Q E hr h => ?_)
  · obtain ⟨x, rfl, lx, q, e⟩ := h
    rfl
  · obtain ⟨x, rfl, lx, q, e⟩ := h
    have nd := scReadRow.nd
    have hu := hu_of hr
    have hrRefuseUnless : Room 3 _ := hr.mm
    have hrReadPath : Room 7 _ := hr.mm
    have hrReadThing : Room 14 _ := hr.mm
    refine ⟨_, (pss_cons (ps_se 1 nd (pe_ix (r := rIxT K) ix_tup (pe_bm PySem.F.plainAttrs_str PySem.F.slot_str_partition PySem.F.type_str_partition mt_partition (pv 0) (pa1 pe_str)) pe_int (fun _ _ => rfl)))
      (pss_cons (ps_se 2 nd (pe_ix (r := rIxT K) ix_tup (pe_bm PySem.F.plainAttrs_str PySem.F.slot_str_partition PySem.F.type_str_partition mt_partition (pv 0) (pa1 pe_str)) pe_int (fun _ _ => rfl)))
      (pss_cons (ps_expr (pe_call GRefuseUnless hrRefuseUnless rfl mRefuseUnless kRefuseUnless bRefuseUnless .nil passD (pa1 (pe_cmp (pc_dinK hLE (pv 1) (pe_glob (v := .ref tLE) rfl mLE rfl))))))
      (pss_cons (ps_if (pt_cmpR op_eq (pe_dgetK hLE (pe_glob (v := .ref tLE) rfl mLE rfl) (pv 1) (fun _ _ => rfl)) pe_int (nomark _)) (pss_one (ps_ret (pe_tup (pa_cons (pv 1) (pa1 (pe_call GReadPath hrReadPath rfl mReadPath kReadPath bReadPath .nil passD (pa1 (pv 2)))))))) pss_nil)
      (pss_cons (ps_se 3 nd (pe_call GReadPath hrReadPath rfl mReadPath kReadPath bReadPath .nil passD (pa1 (pe_ix (r := rIxT K) ix_tup (pe_bm PySem.F.plainAttrs_str PySem.F.slot_str_partition PySem.F.type_str_partition mt_partition (pv 2) (pa1 pe_str)) pe_int (fun _ _ => rfl)))))
      (pss_one (ps_ret (pe_tup (pa_cons (pv 1) (pa_cons (pv 3) (pa1 (pe_call GReadThing hrReadThing rfl mReadThing kReadThing bReadThing .nil passD (pa_cons (pv 1) (pa1 (pe_ix (r := rIxT K) ix_tup (pe_bm PySem.F.plainAttrs_str PySem.F.slot_str_partition PySem.F.type_str_partition mt_partition (pv 2) (pa1 pe_str)) pe_int (fun _ _ => rfl)))))))))))))))), ?_⟩
    have l1 := Nat.le_trans (part1_len (x := x)) lx
    have l2 := Nat.le_trans (part2_len (x := x)) lx
    have l3 := Nat.le_trans (part1_len (x := (Txt.partition x " ").2.2)) l2
    have l4 := Nat.le_trans (part2_len (x := (Txt.partition x " ").2.2)) l2
    refine ⟨_, rfl, rfl, x, " ", rfl, rfl, rfl, big_line lx, .mk fun p1 H1 n1 s1 f1 => ⟨p1, _, 0, _, rfl, rfl, SqT.of f1, at0, ?_⟩⟩
    refine ⟨_, rfl, rfl, x, " ", rfl, rfl, rfl, big_line lx, .mk fun p2 H2 n2 s2 f2 => ⟨p2, _, 2, _, rfl, rfl, SqT.of f2, at2, ?_⟩⟩
    have s02 := s1.trans s2
    unfold rowO at q e
    generalize Txt.partition x " " = pt at *
    generalize hpu : Txt.partition pt.2.2 " " = pu at *
    refine ⟨_, rfl, .inr pt.1, _, rfl, rfl, rfl, ?_⟩
    cases hv : valV lens (.inr pt.1) with
    | none =>
      rw [hv] at e
      exact ⟨false, rfl, (fun z => nomatch z), fun _ d H' s' hf => e rfl d H' (s02.trans s') hf⟩
    | some k =>
      rw [hv, Option.bind_some] at q e
      obtain ⟨i, rfl⟩ := lens_int hv
      refine ⟨true, rfl, (fun _ => ?_), fun z => nomatch z⟩
      refine ⟨_, rfl, .inr pt.1, _, rfl, rfl, hv, rfl, _, rfl, ?_⟩
      by_cases h2 : V.int i = V.int 2
      · rw [if_pos h2] at q e
        refine iteBT (decide_eq_true h2) ⟨_, rfl, _, rfl, .txt pt.2.2 rfl l2 (fun vs ev p3 H3 s3 _ => ⟨two_line, .mk fun p4 H4 n4 s4 f4 => q (by rw [ev]; rfl) _ H4 (s02.trans (s3.trans s4))⟩) (fun en d H' s' hf => e (by rw [en]; rfl) d H' (s02.trans s') hf)⟩
      · rw [if_neg h2] at q e
        refine iteBF (decide_eq_false h2) ?_
        refine ⟨_, rfl, rfl, pt.2.2, " ", rfl, rfl, rfl, big_line l2, .mk fun p3 H3 n3 s3 f3 => ?_⟩
        rw [hpu] at f3
        have s03 := s02.trans s3
        refine ⟨p3, _, 0, _, rfl, rfl, SqT.of f3, at0, .txt pu.1 rfl l3 (fun vs ev p4 H4 s4 _ => ?_) (fun en d H' s' hf => e (by rw [en]; rfl) d H' (s03.trans s') hf)⟩
        rw [ev, Option.bind_some] at q e
        have s04 := s03.trans s4
        refine ⟨_, rfl, _, rfl, _, rfl, _, rfl, rfl, pt.2.2, " ", rfl, rfl, rfl, big_line l2, .mk fun p5 H5 n5 s5 f5 => ?_⟩
        rw [hpu] at f5
        have s05 := s04.trans s5
        refine ⟨p5, _, 2, _, rfl, rfl, SqT.of f5, at2, pt.1, pu.2.2, rfl, l1, l4, fun et v H6 s6 => ⟨line3, .mk fun p7 H7 n7 s7 f7 => q et _ H7 (s05.trans (s6.trans s7))⟩, fun en d H' s' hf => e en d H' (s05.trans s') hf⟩
theorem scReadThing : FnScope ["word", "text"] ["word", "text"] (defScope sReadThing) := {}
theorem ok_ReadThing {c : Nat → Addr} {tWV tKI : Addr} {f : Addr} {fd : FuncData} (F : Fq K "read_thing" 45 f fd) (T : Txt mg) (DRefuseUnless : DfD P w K mg base "refuse_unless" ["holds_good"] 3 (spRU c)) (DReadDoc : DfD P w K mg base "read_doc" ["text"] 12 (spRead c)) (DReadPath : DfD P w K mg base "read_path" ["text"] 7 (spRPath c K)) (mWV : mg "WORDS_WITH_VALUE" = some (.ref tWV)) (hWV : tupB K tWV wordsWV = true) (mKI : mg "KINDS" = some (.ref tKI)) (hKI : tupB K tKI wordsKI = true) : FnOk P w K mg base (CXD P w) 14 f fd ["word", "text"] (spRTh c) := by
  obtain ⟨fRefuseUnless, dRefuseUnless, kRefuseUnless, bRefuseUnless, mRefuseUnless, GRefuseUnless⟩ := DRefuseUnless.ex
  obtain ⟨fReadDoc, dReadDoc, kReadDoc, bReadDoc, mReadDoc, GReadDoc⟩ := DReadDoc.ex
  obtain ⟨fReadPath, dReadPath, kReadPath, bReadPath, mReadPath, GReadPath⟩ := DReadPath.ex
  refine F.okD scReadThing (fun vs H Q E h => ?_) (fun cdv A outer s H vs Q E hr h => ?_)
  · obtain ⟨w0, t0, rfl, lw, lt, q, e⟩ := h
    rfl
  · obtain ⟨w0, t0, rfl, lw, lt, q, e⟩ := h
    have nd := scReadThing.nd
    have hu := hu_of hr
    have hrRefuseUnless : Room 3 _ := hr.mm
    have hrReadDoc : Room 12 _ := hr.mm
    have hrReadPath : Room 7 _ := hr.mm
    refine ⟨_, (pss_cons (ps_if (pt_cmpR (op_in_seq : OpR _ _ (rIn K false)) (pv 0) (pe_glob (v := .ref tWV) rfl mWV rfl) rfl) (pss_one (ps_ret (pe_call GReadDoc hrReadDoc rfl mReadDoc kReadDoc bReadDoc .nil passD (pa1 (pv 1))))) pss_nil)
      (pss_cons (ps_if (pt_cmpR op_eq (pv 0) pe_str (nomark _)) (pss_cons (ps_expr (pe_call GRefuseUnless hrRefuseUnless rfl mRefuseUnless kRefuseUnless bRefuseUnless .nil passD (pa1 (pe_cmpR (op_in_seq : OpR _ _ (rIn K false)) (pv 1) (pe_glob (v := .ref tKI) rfl mKI rfl) rfl))))
      (pss_one (ps_ret (pv 1)))) pss_nil)
      (pss_one (ps_ret (pe_call GReadPath hrReadPath rfl mReadPath kReadPath bReadPath .nil passD (pa1 (pv 1))))))), ?_⟩
    refine ⟨_, rfl, tWV, _, rfl, .inr (SqT.ofK hWV _), rfl, rfl, _, rfl, ite2B (fun e1 => ?_) (fun e1 => ?_)⟩
    · have et : thingO w0 t0 = okO (pd (sgn t0)) := if_pos e1
      rw [et] at q e
      exact ⟨_, rfl, .txt t0 rfl lt (fun t ep v H' s' _ => q (by rw [ep]; rfl) v H' s') (fun en d H' s' hf => e (by rw [en]; rfl) d H' s' hf)⟩
    · have e1' : ¬ inV (.str w0) (wordsWV.map V.str) = true := fun z => by have e1 : inV (.str w0) (wordsWV.map V.str) = false := e1; rw [e1] at z; cases z
      refine ⟨_, rfl, rfl, _, rfl, ?_⟩
      rw [str_dec]
      by_cases hw : w0 = "is"
      · have et : thingO w0 t0 = if inV (.str t0) (wordsKI.map V.str) = true then some () else none := (if_neg e1').trans (if_pos hw)
        rw [et] at q e
        refine iteBT (decide_eq_true hw) ⟨_, rfl, tKI, _, rfl, .inr (SqT.ofK hKI _), rfl, rfl, _, rfl, fun er => ⟨_, rfl, q (if_pos er) _ _ (Same.refl _)⟩, fun er d H' s' hf => e (if_neg ?_) d H' s' hf⟩
        intro z; have er : inV (.str t0) (wordsKI.map V.str) = false := er; rw [er] at z; cases z
      · have et : thingO w0 t0 = okO (pathV t0) := (if_neg e1').trans (if_neg hw)
        rw [et] at q e
        exact iteBF (decide_eq_false hw) ⟨_, rfl, .txt t0 rfl lt (fun vs ep p H' s' _ => q (by rw [ep]; rfl) _ H' s') (fun en d H' s' hf => e (by rw [en]; rfl) d H' s' hf)⟩
theorem ok_Cell {f : Addr} {fd : FuncData} (F : Fq K "_law_cell" 47 f fd) (T : Txt mg) : FnOk P w K mg base CX0 1 f fd ["_law_script", "_law_k"] (spCell K) := by
  refine F.oq ["_law_script", "_law_k"] fun H _ _ _ _ hr h => ?_
  obtain ⟨a, ns, k, rfl, hS, q⟩ := h
  refine ⟨_, (pss_cons (ps_if (pt_cmpR op_lt (pv 1) (len1 K T (pv 0)) (nomark _)) (pss_one (ps_ret (pe_op op_mod (ixl K (pv 0) (pv 1)) (pe_op op_mul pe_int (pe_op op_pow pe_int pe_int))))) pss_nil)
    (pss_one (ps_ret (pe_op op_add pe_int (pe_op op_mul pe_int (pv 1)))))), ?_⟩
  refine ⟨_, rfl, _, rfl, a, _, rfl, .inl hS, _, _, rfl, rfl, _, rfl, ?_⟩
  refine ite2 (fun h1 => ?_) (fun h1 => ?_)
  · have hk : k < ns.length := by
      have := of_decide_eq_true h1
      rw [List.length_map] at this
      omega
    have hx : (ns.map V.int)[k]? = some (.int ns[k]) := by rw [List.getElem?_map, List.getElem?_eq_getElem hk]; rfl
    exact ⟨_, rfl, _, rfl, a, _, _, _, rfl, rfl, hS, atI_nat hx, _, _, rfl, rfl, ⟨by decide, by decide, by decide⟩, _, _, rfl, rfl, .inl dec2_, _, _, rfl, rfl, zpos_, q _ (Int.emod_nonneg _ (by decide))⟩
  · exact ⟨_, rfl, _, _, rfl, rfl, .inl dec2_, _, _, rfl, rfl, q _ (by omega)⟩
theorem ok_Mix {f : Addr} {fd : FuncData} (F : Fq K "_law_mix" 48 f fd) (T : Txt mg) : FnOk P w K mg base CX0 1 f fd ["_law_cell_here", "_law_k"] spMixF := by
  refine F.oq ["_law_cell_here", "_law_k", "_law_number", "_law_j"] fun H En _ ndq _ hr h => ?_
  obtain ⟨c, k, rfl, hk, q⟩ := h
  refine ⟨_, (pss_cons (ps_if (PW.pt (pw_and (pt_cmpR op_eq (pe_op op_mod (pv 0) pe_int) pe_int (nomark _)) (pw_and1 (pt_cmpR op_ge (pv 0) (pe_op op_mul pe_int (pe_op op_pow pe_int pe_int)) (nomark _))))) (pss_cons (ps_se 2 ndq (pe_op op_fdiv (pv 0) pe_int))
    (pss_cons (fo1 (pi_range1 rfl T.range (pa1 (pv 1))) (pg_na 3 ndq) (pss_one (ps_se 2 ndq (pe_op op_fdiv (pv 2) pe_int))))
    (pss_one (ps_ret (pe_op op_mod (pv 2) pe_int))))) pss_nil)
    (pss_cons (ps_se 2 ndq (pe_op op_mod (pe_op op_mul (pe_op op_add (pv 0) pe_int) pe_int) pe_int))
    (pss_cons (ps_se 2 ndq (pe_op op_mod (pe_op op_add (pv 2) (pe_op op_mul (pe_op op_add (pv 1) pe_int) pe_int)) pe_int))
    (pss_cons (ps_se 2 ndq (pe_op op_mod (pe_op op_mul (pv 2) (pv 2)) pe_int))
    (pss_cons (ps_se 2 ndq (pe_op op_mod (pe_op op_mul (pe_op op_add (pv 2) pe_int) (pe_op op_add (pe_op op_fdiv (pv 2) pe_int) pe_int)) pe_int))
    (pss_one (ps_ret (pe_op op_fdiv (pv 2) pe_int)))))))), ?_⟩
  have lo : ∀ x : Int, -(2 ^ 64) < x % 2305843009213693951 ∧ x % 2305843009213693951 < 2 ^ 64 := fun x => by
    have h1 := Int.emod_nonneg x (show (2305843009213693951 : Int) ≠ 0 by decide)
    have h2 := Int.emod_lt_of_pos x (show (0 : Int) < 2305843009213693951 by decide)
    constructor <;> omega
  have lo1 : ∀ x : Int, -(2 ^ 64) < x % 999999999999999989 + 1 ∧ x % 999999999999999989 + 1 < 2 ^ 64 := fun x => by
    have h1 := Int.emod_nonneg x (show (999999999999999989 : Int) ≠ 0 by decide)
    have h2 := Int.emod_lt_of_pos x (show (0 : Int) < 999999999999999989 by decide)
    constructor <;> omega
  have q2 : ¬ (c % 4 = 0 ∧ 4 * 10 ^ 60 ≤ c) → En.rt (.int ((mixN c k + 1) * (mixN c k / 1000003 + 7) % 2305843009213693951 / 7919)) H := fun h => by
    have e : mixF c k = _ := if_neg h
    rw [e] at q
    exact q
  refine ⟨_, rfl, _, _, rfl, rfl, zpos_, rfl, _, rfl, ?_⟩
  refine ite2 (fun h1 => ?_) (fun h1 => ?_)
  · refine ⟨_, rfl, _, _, rfl, rfl, ⟨by decide, by decide, by decide⟩, _, _, rfl, rfl, .inl dec2_, _, _, rfl, rfl, _, rfl, ?_⟩
    have c4 : c % 4 = 0 := V.int.inj (of_decide_eq_true h1)
    refine ite2 (fun h2 => ?_) (fun h2 => ?_)
    · have c60 : 4 * 10 ^ 60 ≤ c := of_decide_eq_true h2
      have e : mixF c k = _ := if_pos ⟨c4, c60⟩
      rw [e] at q
      refine ⟨_, rfl, _, _, rfl, rfl, dec2_, _, rfl, _, rfl, Int.le_trans (by decide) (Int.natCast_nonneg _), Int.lt_of_le_of_lt (Int.ofNat_le.mpr hk) (by decide), for_range (lo := 0) (fun i σ H2 => ∃ (oj : Option V), σ = [some (.int c), some (.int (k : Int)), some (.int (divs i (c / 4))), oj] ∧ H2 = H) ⟨none, rfl, rfl⟩ ?_ ?_⟩
      · rintro i σ H2 _ go hi ⟨oj, rfl, rfl⟩
        exact ⟨_, rfl, _, _, rfl, rfl, dec2_, go.n ⟨_, rfl, rfl⟩⟩
      · rintro σ H2 ⟨oj, rfl, rfl⟩
        rw [Int.toNat_natCast]
        exact ⟨_, rfl, _, _, rfl, rfl, zpos_, q⟩
    · have hno : ¬ (c % 4 = 0 ∧ 4 * 10 ^ 60 ≤ c) := fun z => h2 (decide_eq_true z.2)
      exact ⟨_, rfl, _, _, rfl, rfl, _, _, rfl, rfl, .inr dec2_, _, _, rfl, rfl, zpos_, _, rfl, _, rfl, _, _, rfl, rfl, _, _, rfl, rfl, .inr dec2_, _, _, rfl, rfl, _, _, rfl, rfl, zpos_, _, rfl, _, rfl, _, _, rfl, rfl, .inl (lo _), _, _, rfl, rfl, zpos_, _, rfl, _, _, rfl, rfl, _, rfl, _, _, rfl, rfl, dec2_, _, _, rfl, rfl, _, _, rfl, rfl, .inl (lo1 _), _, _, rfl, rfl, zpos_, _, rfl, _, _, rfl, rfl, dec2_, q2 hno⟩
  · refine iteF ?_
    have hno : ¬ (c % 4 = 0 ∧ 4 * 10 ^ 60 ≤ c) := fun z => h1 (decide_eq_true (congrArg V.int z.1))
    exact ⟨_, rfl, _, _, rfl, rfl, _, _, rfl, rfl, .inr dec2_, _, _, rfl, rfl, zpos_, _, rfl, _, rfl, _, _, rfl, rfl, _, _, rfl, rfl, .inr dec2_, _, _, rfl, rfl, _, _, rfl, rfl, zpos_, _, rfl, _, rfl, _, _, rfl, rfl, .inl (lo _), _, _, rfl, rfl, zpos_, _, rfl, _, _, rfl, rfl, _, rfl, _, _, rfl, rfl, dec2_, _, _, rfl, rfl, _, _, rfl, rfl, .inl (lo1 _), _, _, rfl, rfl, zpos_, _, rfl, _, _, rfl, rfl, dec2_, q2 hno⟩
theorem okW_Mix {f : Addr} {fd : FuncData} (F : Fq K "_law_mix" 48 f fd) (T : Txt mg) : FnOk P w K mg base CX0 1 f fd ["_law_cell_here", "_law_k"] spMix := (ok_Mix F T).imp fun _ _ _ _ h => spMix_of h
theorem ok_Names {f : Addr} {fd : FuncData} (F : Fq K "_law_names" 49 f fd) (T : Txt mg) (DMix : Df P w K mg base "_law_mix" ["_law_cell_here", "_law_k"] 1 spMix) : FnOk P w K mg base CX0 2 f fd ["_law_cell_here"] spNames1 := by
  refine F.oq ["_law_cell_here", "_law_letters", "_law_pairs", "_law_word", "_law_size", "_law_at", "_law_more", "_law_names_here", "_law_k", "_law_one"] fun H _ _ ndq _ hr h => ?_
  obtain ⟨c, rfl, q⟩ := h
  refine ⟨_, (pss_cons (ps_set (i := 1) ndq rfl (Or.inr rfl) pe_str)
    (pss_cons (ps_setComp (i := 2)  (fv := ["_law_cell_here"]) (fs := [0]) rfl (.of (by rfl)) ndq rfl (Or.inl rfl) (pi_range1 rfl T.range (pa1 pe_int)) (fun _ _ _ _ => pts_nil) (fun C s0 H0 fp => (pe_op op_mod (cal DMix hr (pa_cons (pv 1) (pa1 (pv 0)))) pe_int)))
    (pss_cons (ps_set (i := 3) ndq rfl (Or.inr rfl) (pe_bm PySem.F.plainAttrs_str PySem.F.slot_str_join PySem.F.type_str_join mt_join pe_str (pa1 (cmp ["_law_letters"] [1] (pi_list (pv 2)) fun _ _ _ _ => (pe_op op_add_str (pe_ix ix_str (pv 1) (pe_op op_mod (pv 0) pe_int) (fun _ _ => rfl)) (pe_ix ix_str (pv 1) (pe_op op_fdiv (pv 0) pe_int) (fun _ _ => rfl)))))))
    (pss_cons (ps_se 4 ndq (pe_op op_add pe_int (pe_op op_mod (cal DMix hr (pa_cons (pv 0) (pa1 pe_int))) pe_int)))
    (pss_cons (ps_se 5 ndq (pe_op op_mod (cal DMix hr (pa_cons (pv 0) (pa1 pe_int))) (pv 4)))
    (pss_cons (ps_set (i := 6) ndq rfl (Or.inr rfl) (cal DMix hr (pa_cons (pv 0) (pa1 pe_int))))
    (pss_cons (ps_if (pt_cmpR op_eq (pe_op op_mod (cal DMix hr (pa_cons (pv 0) (pa1 pe_int))) pe_int) pe_int (nomark _)) (pss_one (ps_ret (cmp ["_law_word", "_law_more"] [3, 6] (pi_range1 rfl T.range (pa1 pe_int)) fun _ _ _ _ => (pe_slice sl_str (pv 1) po_none (po_some (pe_op op_add (pe_op op_add (pv 0) pe_int) (pe_op op_mod (pv 2) pe_int))))))) pss_nil)
    (pss_cons (ps_se 7 ndq (pe_lst pa_nil))
    (pss_cons (fo1 (pi_range1 rfl T.range (pa1 pe_int)) (pg_na 8 ndq) (pss_cons (ps_se 9 ndq (pe_ix ix_str (pv 1) (pe_op op_mod (pe_op op_add (pv 6) (pe_op op_mul pe_int (pv 8))) pe_int) (fun _ _ => rfl)))
    (pss_one (ps_expr (apd K (pv 7) (pe_op op_add_str (pe_op op_add_str (pe_slice sl_str (pv 3) po_none (po_some (pv 5))) (pv 9)) (pe_slice sl_str (pv 3) (po_some (pe_op op_add (pv 5) pe_int)) (po_some (pv 4)))))))))
    (pss_one (ps_ret (pv 7)))))))))))), ?_⟩
  refine ⟨4, rfl, by decide, by decide, comp_rel (n := 4) (fun i => .int (0 + (i : Int))) (fun _ v => ∃ n : Int, v = .int n ∧ 0 ≤ n ∧ n < 676) (by decide) (fun i H2 hi s2 => hi) (fun i H2 v H' hi s2 y => ⟨y.2, y.1⟩) (fun H2 s2 => Nat.le_refl _) (fun i H2 R hi s2 r => ?_) (fun D1 H1 ps hD1 s1 d1 lp op => ?_)⟩
  · refine ⟨_, rfl, _, rfl, c, i, by simp, by omega, fun r1 _ _ => ⟨_, _, rfl, rfl, zpos_, r _ H2 (Same.refl H2) ⟨_, rfl, ?_⟩⟩⟩
    exact mod_b r1 (by decide)
  obtain ⟨PP, hPP⟩ : ∃ PP, PP = V.ref D1 := ⟨_, rfl⟩
  refine ⟨rfl, _, rfl, D1, rfl, ⟨_, SqL.of d1⟩, comp_rel (n := 4) (fun i => ps.getD i .non) (fun _ v => LetS 2 v) (by decide) (fun i H2 hi s2 => ⟨_, _, SqL.of (s2 _ _ d1), List.getElem?_eq_getElem (by omega)⟩) (fun i H2 v H' hi s2 y => ?_) (fun H2 s2 => ⟨_, SqL.of (s2 _ _ d1), by omega⟩) (fun i H2 R hi s2 r => ?_) (fun D H2 ys hD s2 d2 ly oy => ?_)⟩
  · obtain ⟨e, y⟩ := y
    refine ⟨?_, e⟩
    rw [List.getD_eq_getElem?_getD, y _ (SqL.of (s2 _ _ d1))]
    rfl
  · obtain ⟨n, en, n0, n1⟩ := op i (ps.getD i .non) (by rw [List.getD_eq_getElem?_getD, List.getElem?_eq_getElem (show i < ps.length by omega)]; rfl)
    rw [en]
    obtain ⟨ch, hat, hl⟩ := at_let (n % 26) (mod26 n).1 (mod26 n).2
    obtain ⟨ch2, hat2, hl2⟩ := at_let (n / 26) (by omega) (by omega)
    refine ⟨_, rfl, _, rfl, _, _, rfl, rfl, zpos_, abc, _, ch, rfl, rfl, by rw [abc_len]; decide, hat, _, rfl, _, rfl, _, _, rfl, rfl, dec2_, abc, _, ch2, rfl, rfl, by rw [abc_len]; decide, hat2, _, _, rfl, rfl, le_line (show 1 + 1 ≤ 1000 by decide), r _ H2 (Same.refl H2) ⟨_, rfl, rfl, ?_⟩⟩
    rw [sgn_append]
    show ([ch] ++ [ch2]).all isL = true
    simp [hl, hl2]
  obtain ⟨zs, e1, h1, h2, h3⟩ := letS_list ys fun y hy => by
    obtain ⟨j, hj, e⟩ := List.mem_iff_getElem.mp hy
    exact oy j y (by rw [List.getElem?_eq_getElem hj, e])
  subst e1
  rw [ly] at h1 h2
  have lz : zs.length = 4 := by rw [← ly, List.length_map]
  refine ⟨_, D, zs, rfl, rfl, SqL.of d2, by rw [h1, lz]; decide, ?_⟩
  obtain ⟨W, hW⟩ : ∃ W, W = Txt.join "" zs := ⟨_, rfl⟩
  have w8 : (sgn W).length = 8 := by rw [hW, sgn_join, h2]
  have wL : (sgn W).all isL = true := by rw [hW, sgn_join]; exact h3
  have wz : W.length = 8 := by rw [← sgn_length]; exact w8
  rw [← hW, ← hPP]
  refine ⟨_, rfl, c, 4, rfl, by decide, fun r1 _ _ => ⟨_, _, rfl, rfl, zpos_, _, _, rfl, rfl, ?_⟩⟩
  have b1 : 0 ≤ r1 % 8 ∧ r1 % 8 < 8 := ⟨Int.emod_nonneg _ (by decide), Int.emod_lt_of_pos _ (by decide)⟩
  obtain ⟨sz1, hs1⟩ : ∃ z : Nat, 1 + r1 % 8 = (z : Int) := ⟨(1 + r1 % 8).toNat, by omega⟩
  have bs : 1 ≤ sz1 ∧ sz1 ≤ 8 := by omega
  refine ⟨_, rfl, c, 5, rfl, by decide, fun r2 _ _ => ⟨_, rfl, _, _, rfl, rfl, (by show (0 : Int) < 1 + r1 % 8; omega), ?_⟩⟩
  have b2 : 0 ≤ r2 % (1 + r1 % 8) ∧ r2 % (1 + r1 % 8) < 1 + r1 % 8 := ⟨Int.emod_nonneg _ (by omega), Int.emod_lt_of_pos _ (by omega)⟩
  obtain ⟨at1, ha1⟩ : ∃ z : Nat, r2 % (1 + r1 % 8) = (z : Int) := ⟨(r2 % (1 + r1 % 8)).toNat, by omega⟩
  have b2' : at1 < sz1 := by omega
  refine ⟨_, rfl, c, 6, rfl, by decide, fun sh sh0 _ => ?_⟩
  refine ⟨_, rfl, c, 7, rfl, by decide, fun r4 _ _ => ⟨_, _, rfl, rfl, zpos_, rfl, _, rfl, ?_⟩⟩
  have m3 := mod_b sh (n := 3) (by decide)
  have s2' := s1.trans s2
  refine ite2 (fun _ => ?_) (fun _ => ?_)
  · refine ⟨6, rfl, by decide, by decide, comp_rel (n := 6) (fun i => .int (0 + (i : Int))) (fun i v => ∃ y : Str, v = .str y ∧ nameB y = true ∧ ((sgn y).length : Int) = (i : Int) + 1 + sh % 3) (by decide) (fun i H2 hi s2 => hi) (fun i H2 v H' hi s2 y => ⟨y.2, y.1⟩) (fun H2 s2 => Nat.le_refl _) (fun i H3 R hi s3 r => ?_) (fun D3 H3 vs hD3 s3 d3 lv ov => ?_)⟩
    · refine ⟨_, rfl, _, rfl, _, _, rfl, rfl, _, rfl, _, _, rfl, rfl, zpos_, _, _, rfl, rfl, _, rfl, W, rfl, by rw [wz]; decide, r _ H3 (Same.refl H3) ⟨_, rfl, ?_, ?_⟩⟩
      · obtain ⟨n, hn⟩ : ∃ n : Nat, 0 + (i : Int) + 1 + sh % 3 = (n : Int) := ⟨(0 + (i : Int) + 1 + sh % 3).toNat, by omega⟩
        show nameS (sgn (Txt.slice W none (some (0 + (i : Int) + 1 + sh % 3)))) = true
        rw [hn, sgn_slice, cut_to]
        refine nameS_mk ?_ ?_ (all_take wL n)
        · rw [List.length_take, w8]; omega
        · rw [List.length_take, w8]; omega
      · obtain ⟨n, hn⟩ : ∃ n : Nat, 0 + (i : Int) + 1 + sh % 3 = (n : Int) := ⟨(0 + (i : Int) + 1 + sh % 3).toNat, by omega⟩
        rw [hn, sgn_slice, cut_to, List.length_take, w8]
        omega
    · have gen : ∀ (vs : List V), (∀ (j : Nat) v, vs[j]? = some v → ∃ y : Str, v = .str y) → ∃ ys : List Str, vs = ys.map V.str := by
        intro vs
        induction vs with
        | nil => exact fun _ => ⟨[], rfl⟩
        | cons v r ih =>
          intro h
          obtain ⟨y, rfl⟩ := h 0 v rfl
          obtain ⟨ys, rfl⟩ := ih fun j v hj => h (j + 1) v (by simpa using hj)
          exact ⟨y :: ys, rfl⟩
      obtain ⟨ns, rfl⟩ := gen vs fun j v hj => let ⟨y, e, _⟩ := ov j v hj; ⟨y, e⟩
      have nat : ∀ (j : Nat) y, ns[j]? = some y → nameB y = true ∧ ((sgn y).length : Int) = (j : Int) + 1 + sh % 3 := fun j y hj => by
        obtain ⟨y', e, h1, h2⟩ := ov j (.str y) (by rw [List.getElem?_map, hj]; rfl)
        cases e
        exact ⟨h1, h2⟩
      refine q D3 ns H3 (s2'.trans s3) (s2'.free hD3) d3 (by rw [← lv, List.length_map]) (nodup_by (fun j y => ((sgn y).length : Int) = (j : Int) + 1 + sh % 3) (fun j y hj => (nat j y hj).2) fun i j y hij _ p1 p2 => by omega) fun y hy => ?_
      obtain ⟨j, hj, rfl⟩ := List.mem_iff_getElem.mp hy
      exact (nat j _ (List.getElem?_eq_getElem hj)).1
  obtain ⟨szI, eszI⟩ : ∃ z : Int, z = 1 + r1 % 8 := ⟨_, rfl⟩
  obtain ⟨atI1, eatI⟩ : ∃ z : Int, z = r2 % (1 + r1 % 8) := ⟨_, rfl⟩
  obtain ⟨NmP, hNm⟩ : ∃ NmP : Nat → Str → Prop, NmP = fun (j : Nat) (y : Str) => (sgn y)[at1]? = LET[((sh + 5 * (j : Int)) % 26).toNat]? := ⟨_, rfl⟩
  refine ⟨Nat.zero_le _, fun p hp => ?_⟩
  have pf : H p = none := s2'.free hp
  refine ⟨6, rfl, by decide, by decide, for_range (lo := 0) (n := 6) (fun i σ H3 => ∃ (ys : List Str) (ok os : Option V), σ = [some (.int c), some (.str abc), some PP, some (.str W), some (.int szI), some (.int atI1), some (.int sh), some (.ref p), ok, os] ∧
    Same H H3 ∧ H3 p = some (.lst (ys.map V.str)) ∧ ys.length = i ∧ (∀ (j : Nat) y, ys[j]? = some y → NmP j y) ∧ ∀ y ∈ ys, nameB y = true) ⟨[], none, none, by rw [eszI, eatI]; rfl, s2'.put pf, upd_same, rfl, fun j y hy => (by simp at hy), fun y hy => nomatch hy⟩ ?_ ?_⟩
  · rintro i σ H3 _ go hi ⟨ys, ok, os, rfl, s3, d3, ly3, pm, ny⟩
    have more : ∀ (y : Str) (oo os' : Option V), NmP i y ∧ nameB y = true → ∃ (ys' : List Str) (ok os : Option V), [some (V.int c), some (V.str abc), some PP, some (V.str W), some (V.int szI), some (V.int atI1), some (V.int sh), some (V.ref p), oo, os'] =
        [some (V.int c), some (V.str abc), some PP, some (V.str W), some (V.int szI), some (V.int atI1), some (V.int sh), some (V.ref p), ok, os] ∧
        Same H (upd H3 p (.lst (ys.map V.str ++ [.str y]))) ∧ upd H3 p (.lst (ys.map V.str ++ [.str y])) p = some (.lst (ys'.map V.str)) ∧ ys'.length = i + 1 ∧ (∀ (j : Nat) y, ys'[j]? = some y → NmP j y) ∧ ∀ z ∈ ys', nameB z = true := fun y oo os' hy =>
      ⟨ys ++ [y], oo, os', rfl, s3.put pf, by rw [upd_same, List.map_append]; rfl, by simp [ly3], fun j z hj => by
        by_cases hji : j < ys.length
        · rw [List.getElem?_append_left hji] at hj
          exact pm j z hj
        · have hl := (List.getElem?_eq_some_iff.mp hj).1
          rw [List.length_append, List.length_singleton] at hl
          have e : j = i := by omega
          subst e
          rw [List.getElem?_append_right (by omega), ly3, Nat.sub_self] at hj
          have e : y = z := by simpa using hj
          rw [← e]
          exact hy.1, fun z hz => (List.mem_append.mp hz).elim (ny z) fun hz => by rw [List.mem_singleton.mp hz]; exact hy.2⟩
    have lz3 : (ys.map V.str).length < sizeLine := small1000 (by rw [List.length_map]; omega)
    obtain ⟨ch, hat, hl⟩ := at_let ((sh + 5 * (0 + (i : Int))) % 26) (mod26 _).1 (mod26 _).2
    refine ⟨_, rfl, _, rfl, _, rfl, _, _, rfl, rfl, .inl dec2_, _, _, rfl, rfl, _, _, rfl, rfl, zpos_, abc, _, ch, rfl, rfl, by decide, hat, ?_⟩
    have l1 : (Txt.slice W none (some atI1)).length ≤ 8 := by rw [← wz]; exact Txt.slice_le W _ _
    have l2 : (Txt.slice W (some (atI1 + 1)) (some szI)).length ≤ 8 := by rw [← wz]; exact Txt.slice_le W _ _
    have l3 : (Txt.slice W none (some atI1) ++ (⟨#[ch]⟩ : Str)).length ≤ 9 := by rw [Str.length_append]; show _ + 1 ≤ 9; omega
    refine ⟨_, rfl, .inl ⟨rfl, _, SqL.of d3⟩, _, rfl, _, rfl, _, rfl, W, rfl, by rw [wz]; decide, _, rfl, _, _, rfl, rfl, ?_, _, rfl, _, rfl, _, _, rfl, rfl, _, rfl, _, rfl, _, rfl, W, rfl, by rw [wz]; decide, _, _, rfl, rfl, ?_, p, _, _, rfl, rfl, d3, lz3, go.n (more _ _ _ ⟨?_, ?_⟩)⟩
    · exact Nat.le_of_lt (small1000 (by show (Txt.slice W none (some atI1)).length + 1 ≤ 1000; omega))
    · exact Nat.le_of_lt (small1000 (by omega))
    · rw [hNm]
      show (sgn (Txt.slice W none (some atI1) ++ (⟨#[ch]⟩ : Str) ++ Txt.slice W (some (atI1 + 1)) (some szI)))[at1]? = LET[((sh + 5 * (i : Int)) % 26).toNat]?
      have e0 : atI1 = (at1 : Int) := by omega
      rw [sgn_append, sgn_append, sgn_slice, e0, cut_to]
      have ec : sgn ⟨#[ch]⟩ = [ch] := rfl
      rw [ec]
      have lt : ((sgn W).take at1).length = at1 := by rw [List.length_take, w8]; omega
      rw [List.getElem?_append_left (by rw [List.length_append, lt, List.length_singleton]; omega), List.getElem?_append_right (by rw [lt]; exact Nat.le_refl _), lt, Nat.sub_self]
      have hb := mod26 (sh + 5 * (0 + (i : Int)))
      obtain ⟨m, hm⟩ : ∃ m : Nat, (sh + 5 * (0 + (i : Int))) % 26 = (m : Int) := ⟨((sh + 5 * (0 + (i : Int))) % 26).toNat, by omega⟩
      have hz : (sh + 5 * (i : Int)) % 26 = (m : Int) := by rw [← hm, Int.zero_add]
      rw [hz, Int.toNat_natCast]
      rw [hm] at hat
      obtain ⟨j', g1, g2, g3, _⟩ := atI_get hat
      have : j' = m := by
        have hm26 : m < (sgn abc).length := by show m < LET.length; rw [LET_len]; omega
        have := atI_nat (xs := sgn abc) (j := m) (List.getElem?_eq_getElem hm26)
        obtain ⟨j2, k1, _⟩ := atI_get this
        have q1 : ixN (sgn abc).length (m : Int) = some m := by
          unfold ixN
          rw [if_pos (by omega), if_pos (by omega), Int.toNat_natCast]
        have := (ixN_seq q1).1
        rw [this] at g1
        exact (Option.some.inj g1).symm
      rw [this] at g2
      exact g2.symm
    · show nameS (sgn (Txt.slice W none (some atI1) ++ ⟨#[ch]⟩ ++ Txt.slice W (some (atI1 + 1)) (some szI))) = true
      have e0 : atI1 = (at1 : Int) := by omega
      have e1 : (at1 : Int) + 1 = ((at1 + 1 : Nat) : Int) := by omega
      have e2 : szI = (sz1 : Int) := by omega
      rw [sgn_append, sgn_append, sgn_slice, sgn_slice, e0, e1, e2, cut_to, cut_mid _ _ _ (by omega) (by rw [w8]; omega)]
      have ec : sgn ⟨#[ch]⟩ = [ch] := rfl
      rw [ec]
      have hlen : min at1 8 + 1 + (min sz1 8 - (at1 + 1)) = sz1 := by rw [Nat.min_eq_left (by omega), Nat.min_eq_left (by omega)]; omega
      refine nameS_mk ?_ ?_ ?_
      · simp only [List.length_append, List.length_take, List.length_drop, w8, List.length_singleton]; rw [hlen]; omega
      · simp only [List.length_append, List.length_take, List.length_drop, w8, List.length_singleton]; rw [hlen]; omega
      · rw [List.all_append, List.all_append, all_take wL, all_drop (all_take wL sz1)]
        simp [hl]
  · rintro σ H3 ⟨ys, ok, os, rfl, s3, d3, ly3, pm, ny⟩
    refine ⟨_, rfl, q p ys H3 s3 pf d3 ly3 (nodup_by NmP pm fun i j y hij hj p1 p2 => ?_) ny⟩
    rw [hNm] at p1 p2
    have hb := (mod26 (sh + 5 * (i : Int)))
    have hb2 := (mod26 (sh + 5 * (j : Int)))
    rw [p1] at p2
    have nl : LET.Nodup := by decide +kernel
    have h1 : ((sh + 5 * (i : Int)) % 26).toNat < LET.length := by rw [LET_len]; omega
    have := (List.getElem?_inj h1 nl).mp p2
    exact mod_dif hij (by omega) this
theorem ok_OddDoc {f : Addr} {fd : FuncData} (F : Fq K "_law_odd_doc" 50 f fd) (T : Txt mg) (DMix : Df P w K mg base "_law_mix" ["_law_cell_here", "_law_k"] 1 spMix) : FnOk P w K mg base CX0 2 f fd ["_law_cell_here", "_law_names_here"] spOddD := by
  refine F.oq ["_law_cell_here", "_law_names_here", "_law_one", "_law_two", "_law_some"] fun H _ _ ndq _ hr h => ?_
  obtain ⟨c, n, ys, rfl, hn, q⟩ := h
  refine ⟨_, (@pss_consE _ _ _ _ _ _ rfl (@ps_set _ _ 2 _ _ _ _ ndq rfl (Or.inl rfl) (@pe_ix _ _ _ _ _ _ (rIxL K) ix_list (pv 1) (@pe_op _ _ _ _ _ _ _ _ op_mod (cal DMix hr (@pa_cons _ _ _ _ _ (pv 0) (@pa_cons _ _ _ _ _ pe_int pa_nil rfl) rfl)) pe_int) (fun _ _ => rfl)) rfl (Or.inl rfl))
    (@pss_consE _ _ _ _ _ _ rfl (@ps_set _ _ 3 _ _ _ _ ndq rfl (Or.inl rfl) (pe_callB (call_sortedL rfl : CallR _ _ (rSortL K)) rfl T.sorted b_sorted (@pa_cons _ _ _ _ _ (pv 1) pa_nil rfl)) rfl (Or.inl rfl))
    (@pss_consE _ _ _ _ _ _ rfl (@ps_set _ _ 4 _ _ _ _ ndq rfl (Or.inl rfl) (@pe_lst _ _ _ _ (@pa_cons _ _ _ _ _ pe_str (@pa_cons _ _ _ _ _ pe_str (@pa_cons _ _ _ _ _ pe_str (@pa_cons _ _ _ _ _ pe_str (@pa_cons _ _ _ _ _ pe_str (@pa_cons _ _ _ _ _ pe_str (@pa_cons _ _ _ _ _ (@pe_op _ _ _ _ _ _ _ _ op_mul_str pe_str pe_int) (@pa_cons _ _ _ _ _ (@pe_op _ _ _ _ _ _ _ _ op_add_str pe_str (@pe_op _ _ _ _ _ _ _ _ op_mul_str pe_str pe_int)) (@pa_cons _ _ _ _ _ pe_str (@pa_cons _ _ _ _ _ pe_str (@pa_cons _ _ _ _ _ pe_str (@pa_cons _ _ _ _ _ pe_str (@pa_cons _ _ _ _ _ pe_str pa_nil rfl) rfl) rfl) rfl) rfl) rfl) rfl) rfl) rfl) rfl) rfl) rfl) rfl)) rfl (Or.inl rfl))
    (@pss_consE _ _ _ _ _ _ rfl (@ps_set _ _ 4 _ _ _ _ ndq rfl (Or.inl rfl) (@pe_op _ _ _ _ _ _ _ _ op_cat (pv 4) (@pe_lst _ _ _ _ (@pa_cons _ _ _ _ _ pe_str (@pa_cons _ _ _ _ _ pe_str (@pa_cons _ _ _ _ _ pe_str (@pa_cons _ _ _ _ _ pe_str (@pa_cons _ _ _ _ _ pe_str (@pa_cons _ _ _ _ _ pe_str (@pa_cons _ _ _ _ _ (@pe_op _ _ _ _ _ _ _ _ op_add_str (@pe_op _ _ _ _ _ _ _ _ op_add_str pe_str (pv 2)) pe_str) (@pa_cons _ _ _ _ _ (@pe_op _ _ _ _ _ _ _ _ op_add_str (@pe_op _ _ _ _ _ _ _ _ op_add_str pe_str (pv 2)) pe_str) (@pa_cons _ _ _ _ _ pe_str (@pa_cons _ _ _ _ _ (pv 2) pa_nil rfl) rfl) rfl) rfl) rfl) rfl) rfl) rfl) rfl) rfl))) rfl (Or.inl rfl))
    (@pss_consE _ _ _ _ _ _ rfl (@ps_set _ _ 4 _ _ _ _ ndq rfl (Or.inl rfl) (@pe_op _ _ _ _ _ _ _ _ op_cat (pv 4) (@pe_lst _ _ _ _ (@pa_cons _ _ _ _ _ pe_str (@pa_cons _ _ _ _ _ (@pe_op _ _ _ _ _ _ _ _ op_add_str (@pe_op _ _ _ _ _ _ _ _ op_add_str (@pe_op _ _ _ _ _ _ _ _ op_add_str (@pe_op _ _ _ _ _ _ _ _ op_add_str pe_str (pv 2)) pe_str) (pv 2)) pe_str) (@pa_cons _ _ _ _ _ pe_str (@pa_cons _ _ _ _ _ pe_str pa_nil rfl) rfl) rfl) rfl))) rfl (Or.inl rfl))
    (@pss_consE _ _ _ _ _ _ rfl (ps_expr (pe_bm PySem.F.plainAttrs_list PySem.F.slot_list_append PySem.F.type_list_append mt_append (pv 4) (@pa_cons _ _ _ _ _ (@pe_op _ _ _ _ _ _ _ _ op_add_str (@pe_op _ _ _ _ _ _ _ _ op_add_str (@pe_op _ _ _ _ _ _ _ _ op_add_str (@pe_op _ _ _ _ _ _ _ _ op_add_str pe_str (@pe_ix _ _ _ _ _ _ (rIxL K) ix_list (pv 3) pe_int (fun _ _ => rfl))) pe_str) (@pe_ix _ _ _ _ _ _ (rIxL K) ix_list (pv 3) pe_int (fun _ _ => rfl))) pe_str) pa_nil rfl)))
    (@pss_consE _ _ _ _ _ _ rfl (@ps_set _ _ 4 _ _ _ _ ndq rfl (Or.inl rfl) (@pe_op _ _ _ _ _ _ _ _ op_cat (pv 4) (@pe_lst _ _ _ _ (@pa_cons _ _ _ _ _ (@pe_op _ _ _ _ _ _ _ _ op_add_str (@pe_op _ _ _ _ _ _ _ _ op_add_str (@pe_op _ _ _ _ _ _ _ _ op_add_str pe_str (pv 2)) pe_str) pe_str) (@pa_cons _ _ _ _ _ pe_str (@pa_cons _ _ _ _ _ pe_str (@pa_cons _ _ _ _ _ pe_str pa_nil rfl) rfl) rfl) rfl))) rfl (Or.inl rfl))
    (@pss_one _ _ _ (@ps_ret _ _ _ _ (@pe_ix _ _ _ _ _ _ (rIxL K) ix_list (pv 4) (@pe_op _ _ _ _ _ _ _ _ op_mod (cal DMix hr (@pa_cons _ _ _ _ _ (pv 0) (@pa_cons _ _ _ _ _ pe_int pa_nil rfl) rfl)) pe_int) (fun _ _ => rfl))))))))))), ?_⟩
  refine ⟨_, rfl, _, rfl, c, 1, rfl, by decide, fun r1 _ _ => ⟨r1, 6, rfl, rfl, (by show (0 : Int) < 6; decide), hn.pick fun y1 n1 => ?_⟩⟩
  have c1 := (nm_all n1).2.2
  refine ⟨_, rfl, n, ys, rfl, SqL.of hn.1, by rw [hn.2]; decide, fun p2 ss2 H1 np s1 f1 pm so => ?_⟩
  obtain ⟨x0, x1, e0, e1, m0, m1, lt⟩ := two_least hn.2 hn.3 pm so
  refine gn (sq (od_1.lst (by decide) fun L1 l1 H2 nL1 s2 f2 len1 o1 => ?_))
  refine sq ((od_2 rfl rfl n1 c1).cat rfl f2 o1 (by rw [len1]; decide) fun L2 l2 H3 nL2 s3 f3 len2 o2 => ?_)
  refine sq ((od_3 rfl rfl n1 c1).cat rfl f3 o2 (by rw [len2, len1]; decide) fun L3 l3 H4 nL3 s4 f4 len3 o3 => ?_)
  have len3' : l3.length = 27 := by rw [len3, len2, len1]
  have g1 := s4 _ _ (s3 _ _ (s2 _ _ f1))
  refine sd ((od_5 rfl g1 e0 e1 rfl rfl (nm_all m0).2.2 (nm_all m1).2.2).app (odd_n4 m1 m0 lt (.inr rfl)) rfl f4 o3 (by rw [len3']; decide) fun l4 len4 o4 => ?_)
  refine sq ((od_4 rfl rfl n1 c1).cat rfl upd_same o4 (by rw [len4, len3']; decide) fun L5 l5 H5 nL5 s5 f5 len5 o5 => ?_)
  have s03 := (s1.trans s2).trans s3
  refine ⟨_, rfl, _, rfl, c, 0, rfl, by decide, fun r2 _ _ => ⟨r2, 32, rfl, rfl, (by show (0 : Int) < 32; decide), pick_txt (n := 32) f5 (by rw [len5, len4, len3']) (by decide) o5 fun s9 o9 => q s9 H5 (((s03.trans s4).put (s03.free nL3)).trans s5) o9⟩⟩
theorem ok_OddText {f : Addr} {fd : FuncData} (F : Fq K "_law_odd_text" 51 f fd) (T : Txt mg) (DMix : Df P w K mg base "_law_mix" ["_law_cell_here", "_law_k"] 1 spMix) (DOddDoc : Df P w K mg base "_law_odd_doc" ["_law_cell_here", "_law_names_here"] 2 spOddD) : FnOk P w K mg base CX0 3 f fd ["_law_cell_here", "_law_names_here"] spOddTx := by
  refine F.oq ["_law_cell_here", "_law_names_here", "_law_odd", "_law_way", "_law_one", "_law_good"] fun H _ _ ndq _ hr h => ?_
  obtain ⟨c, n, ys, rfl, hn, q⟩ := h
  refine ⟨_, (@pss_consE _ _ _ _ _ _ rfl (@ps_set _ _ 2 _ _ _ _ ndq rfl (Or.inl rfl) (cal DOddDoc hr (@pa_cons _ _ _ _ _ (pv 0) (@pa_cons _ _ _ _ _ (pv 1) pa_nil rfl) rfl)) rfl (Or.inl rfl))
    (@pss_consE _ _ _ _ _ _ rfl (@ps_set _ _ 3 _ _ _ _ ndq rfl (Or.inl rfl) (@pe_op _ _ _ _ _ _ _ _ op_mod (cal DMix hr (@pa_cons _ _ _ _ _ (pv 0) (@pa_cons _ _ _ _ _ pe_int pa_nil rfl) rfl)) pe_int) rfl (Or.inl rfl))
    (@pss_consE _ _ _ _ _ _ rfl (@ps_set _ _ 4 _ _ _ _ ndq rfl (Or.inl rfl) (@pe_ix _ _ _ _ _ _ (rIxL K) ix_list (pv 1) (@pe_op _ _ _ _ _ _ _ _ op_mod (cal DMix hr (@pa_cons _ _ _ _ _ (pv 0) (@pa_cons _ _ _ _ _ pe_int pa_nil rfl) rfl)) pe_int) (fun _ _ => rfl)) rfl (Or.inl rfl))
    (@pss_consE _ _ _ _ _ _ rfl (@ps_if _ _ _ _ _ _ _ _ (pt_cmpR op_lt (pv 3) pe_int (nomark _)) (@pss_one _ _ _ (@ps_ret _ _ _ _ (pv 2))) pss_nil)
    (@pss_consE _ _ _ _ _ _ rfl (@ps_if _ _ _ _ _ _ _ _ (pt_cmpR op_eq (pv 3) pe_int (nomark _)) (@pss_one _ _ _ (@ps_ret _ _ _ _ (@pe_op _ _ _ _ _ _ _ _ op_add_str (@pe_op _ _ _ _ _ _ _ _ op_add_str pe_str (pv 2)) pe_str))) pss_nil)
    (@pss_consE _ _ _ _ _ _ rfl (@ps_if _ _ _ _ _ _ _ _ (pt_cmpR op_eq (pv 3) pe_int (nomark _)) (@pss_one _ _ _ (@ps_ret _ _ _ _ (@pe_op _ _ _ _ _ _ _ _ op_add_str (@pe_op _ _ _ _ _ _ _ _ op_add_str (@pe_op _ _ _ _ _ _ _ _ op_add_str (@pe_op _ _ _ _ _ _ _ _ op_add_str pe_str (pv 4)) pe_str) (pv 2)) pe_str))) pss_nil)
    (@pss_consE _ _ _ _ _ _ rfl (@ps_set _ _ 5 _ _ _ _ ndq rfl (Or.inl rfl) (@pe_ix _ _ _ _ _ _ (rIxL K) ix_list (@pe_lst _ _ _ _ (@pa_cons _ _ _ _ _ pe_str (@pa_cons _ _ _ _ _ pe_str (@pa_cons _ _ _ _ _ pe_str (@pa_cons _ _ _ _ _ pe_str (@pa_cons _ _ _ _ _ pe_str (@pa_cons _ _ _ _ _ (@pe_op _ _ _ _ _ _ _ _ op_add_str (@pe_op _ _ _ _ _ _ _ _ op_add_str pe_str (pv 4)) pe_str) pa_nil rfl) rfl) rfl) rfl) rfl) rfl)) (@pe_op _ _ _ _ _ _ _ _ op_mod (cal DMix hr (@pa_cons _ _ _ _ _ (pv 0) (@pa_cons _ _ _ _ _ pe_int pa_nil rfl) rfl)) pe_int) (fun _ _ => rfl)) rfl (Or.inl rfl))
    (@pss_one _ _ _ (@ps_ret _ _ _ _ (@pe_ix _ _ _ _ _ _ (rIxL K) ix_list (@pe_lst _ _ _ _ (@pa_cons _ _ _ _ _ (@pe_op _ _ _ _ _ _ _ _ op_add_str (pv 5) pe_str) (@pa_cons _ _ _ _ _ (@pe_op _ _ _ _ _ _ _ _ op_add_str pe_str (pv 5)) (@pa_cons _ _ _ _ _ (@pe_op _ _ _ _ _ _ _ _ op_add_str (pv 5) pe_str) (@pa_cons _ _ _ _ _ (@pe_op _ _ _ _ _ _ _ _ op_add_str (pv 5) pe_str) (@pa_cons _ _ _ _ _ (@pe_op _ _ _ _ _ _ _ _ op_add_str (pv 5) (@pe_op _ _ _ _ _ _ _ _ op_mul_str (pe_slice sl_str (pv 5) (po_some (pe_un un_neg pe_int)) po_none) pe_int)) (@pa_cons _ _ _ _ _ pe_str pa_nil rfl) rfl) rfl) rfl) rfl) rfl)) (@pe_op _ _ _ _ _ _ _ _ op_mod (cal DMix hr (@pa_cons _ _ _ _ _ (pv 0) (@pa_cons _ _ _ _ _ pe_int pa_nil rfl) rfl)) pe_int) (fun _ _ => rfl))))))))))), ?_⟩
  refine ⟨_, rfl, _, rfl, c, n, ys, rfl, hn, fun so H1 s1 oo => ?_⟩
  have lo := oo.len
  have hn1 := hn.up s1
  refine ⟨_, rfl, c, 2, rfl, by decide, fun r1 _ _ => ⟨r1, 6, rfl, rfl, (by show (0 : Int) < 6; decide), ?_⟩⟩
  have mw := mod_b r1 (n := 6) (by decide)
  generalize r1 % 6 = wy at mw
  refine gn ?_
  refine ⟨_, rfl, _, rfl, c, 3, rfl, by decide, fun r2 _ _ => ⟨r2, 6, rfl, rfl, (by show (0 : Int) < 6; decide), hn1.pick fun y1 n1 => ?_⟩⟩
  have c1 := (nm_all n1).2.2
  refine ⟨_, rfl, _, _, rfl, rfl, _, rfl, ite2B (fun e1 => ?_) (fun e1 => ?_)⟩
  · exact ⟨_, rfl, q so H1 s1 oo.t⟩
  refine ⟨_, rfl, rfl, _, rfl, ?_⟩
  by_cases h2 : V.int wy = V.int 2
  · exact iteBT (decide_eq_true h2) (trt (ot_2 rfl rfl lo _ fun s9 e9 => q s9 H1 s1 (by rw [e9]; exact oo.t2)))
  refine iteBF (decide_eq_false h2) ⟨_, rfl, rfl, _, rfl, ?_⟩
  by_cases h3 : V.int wy = V.int 3
  · exact iteBT (decide_eq_true h3) (trt (ot_3 rfl rfl lo rfl rfl c1 _ fun s9 e9 => q s9 H1 s1 (by rw [e9]; exact oo.t3 n1)))
  refine iteBF (decide_eq_false h3) ?_
  refine sq (tp ((gt_1 rfl rfl n1 c1).lst (by decide) fun L1 l1 H2 nL1 s2 f2 len1 o1 => ?_))
  refine ⟨_, rfl, c, 4, rfl, by decide, fun r3 _ _ => ⟨r3, 6, rfl, rfl, (by show (0 : Int) < 6; decide), pick_txt (n := 6) f2 len1 (by decide) o1 fun g1 og => ?_⟩⟩
  refine trt (tp ((gt_2 rfl rfl og og.len).lst (by decide) fun L2 l2 H3 nL2 s3 f3 len2 o2 => ?_))
  exact ⟨_, rfl, c, 5, rfl, by decide, fun r4 _ _ => ⟨r4, 6, rfl, rfl, (by show (0 : Int) < 6; decide), pick_txt (n := 6) f3 len2 (by decide) o2 fun s9 o9 => q s9 H3 ((s1.trans s2).trans s3) o9⟩⟩
theorem ok_OddPath {f : Addr} {fd : FuncData} (F : Fq K "_law_odd_path" 52 f fd) (T : Txt mg) (DMix : Df P w K mg base "_law_mix" ["_law_cell_here", "_law_k"] 1 spMix) : FnOk P w K mg base CX0 2 f fd ["_law_cell_here", "_law_names_here"] spOddPa := by
  refine F.oq ["_law_cell_here", "_law_names_here", "_law_one", "_law_some"] fun H _ _ ndq _ hr h => ?_
  obtain ⟨c, n, ys, rfl, hn, q⟩ := h
  refine ⟨_, (@pss_consE _ _ _ _ _ _ rfl (@ps_set _ _ 2 _ _ _ _ ndq rfl (Or.inl rfl) (@pe_ix _ _ _ _ _ _ (rIxL K) ix_list (pv 1) (@pe_op _ _ _ _ _ _ _ _ op_mod (cal DMix hr (@pa_cons _ _ _ _ _ (pv 0) (@pa_cons _ _ _ _ _ pe_int pa_nil rfl) rfl)) pe_int) (fun _ _ => rfl)) rfl (Or.inl rfl))
    (@pss_consE _ _ _ _ _ _ rfl (@ps_set _ _ 3 _ _ _ _ ndq rfl (Or.inl rfl) (@pe_lst _ _ _ _ (@pa_cons _ _ _ _ _ pe_str (@pa_cons _ _ _ _ _ (pv 2) (@pa_cons _ _ _ _ _ pe_str (@pa_cons _ _ _ _ _ pe_str (@pa_cons _ _ _ _ _ (@pe_op _ _ _ _ _ _ _ _ op_add_str (@pe_op _ _ _ _ _ _ _ _ op_add_str pe_str (pv 2)) pe_str) (@pa_cons _ _ _ _ _ pe_str (@pa_cons _ _ _ _ _ pe_str (@pa_cons _ _ _ _ _ pe_str (@pa_cons _ _ _ _ _ pe_str (@pa_cons _ _ _ _ _ (@pe_op _ _ _ _ _ _ _ _ op_add_str (@pe_op _ _ _ _ _ _ _ _ op_add_str pe_str (pv 2)) pe_str) (@pa_cons _ _ _ _ _ (@pe_op _ _ _ _ _ _ _ _ op_add_str pe_str (pv 2)) (@pa_cons _ _ _ _ _ pe_str pa_nil rfl) rfl) rfl) rfl) rfl) rfl) rfl) rfl) rfl) rfl) rfl) rfl)) rfl (Or.inl rfl))
    (@pss_consE _ _ _ _ _ _ rfl (@ps_set _ _ 3 _ _ _ _ ndq rfl (Or.inl rfl) (@pe_op _ _ _ _ _ _ _ _ op_cat (pv 3) (@pe_lst _ _ _ _ (@pa_cons _ _ _ _ _ (@pe_op _ _ _ _ _ _ _ _ op_add_str pe_str (@pe_op _ _ _ _ _ _ _ _ op_mul_str pe_str pe_int)) (@pa_cons _ _ _ _ _ (@pe_op _ _ _ _ _ _ _ _ op_add_str (@pe_op _ _ _ _ _ _ _ _ op_add_str (@pe_op _ _ _ _ _ _ _ _ op_add_str pe_str (pv 2)) pe_str) (pv 2)) (@pa_cons _ _ _ _ _ pe_str (@pa_cons _ _ _ _ _ pe_str (@pa_cons _ _ _ _ _ (@pe_op _ _ _ _ _ _ _ _ op_add_str (@pe_op _ _ _ _ _ _ _ _ op_add_str pe_str (pv 2)) pe_str) pa_nil rfl) rfl) rfl) rfl) rfl))) rfl (Or.inl rfl))
    (@pss_one _ _ _ (@ps_ret _ _ _ _ (@pe_ix _ _ _ _ _ _ (rIxL K) ix_list (pv 3) (@pe_op _ _ _ _ _ _ _ _ op_mod (cal DMix hr (@pa_cons _ _ _ _ _ (pv 0) (@pa_cons _ _ _ _ _ pe_int pa_nil rfl) rfl)) pe_int) (fun _ _ => rfl))))))), ?_⟩
  refine ⟨_, rfl, _, rfl, c, 3, rfl, by decide, fun r1 _ _ => ⟨r1, 6, rfl, rfl, (by show (0 : Int) < 6; decide), hn.pick fun y1 n1 => ?_⟩⟩
  have c1 := (nm_all n1).2.2
  refine gn (sq ((op_1 rfl rfl n1 c1).lst (by decide) fun L1 l1 H2 nL1 s2 f2 len1 o1 => ?_))
  refine sq ((op_2 rfl rfl n1 c1).cat rfl f2 o1 (by rw [len1]; decide) fun L2 l2 H3 nL2 s3 f3 len2 o2 => ?_)
  refine ⟨_, rfl, _, rfl, c, 6, rfl, by decide, fun r2 _ _ => ⟨r2, 17, rfl, rfl, (by show (0 : Int) < 17; decide), pick_txt (n := 17) f3 (by rw [len2, len1]) (by decide) o2 fun s9 o9 => q s9 H3 (s2.trans s3) o9⟩⟩
theorem ok_OddRow {f : Addr} {fd : FuncData} (F : Fq K "_law_odd_row" 53 f fd) (T : Txt mg) (DMix : Df P w K mg base "_law_mix" ["_law_cell_here", "_law_k"] 1 spMix) (DOddText : Df P w K mg base "_law_odd_text" ["_law_cell_here", "_law_names_here"] 3 spOddTx) (DOddPath : Df P w K mg base "_law_odd_path" ["_law_cell_here", "_law_names_here"] 2 spOddPa) : FnOk P w K mg base CX0 4 f fd ["_law_cell_here", "_law_names_here"] spOddRo := by
  refine F.oq ["_law_cell_here", "_law_names_here", "_law_path", "_law_odd", "_law_some", "_law_wrong"] fun H _ _ ndq _ hr h => ?_
  obtain ⟨c, n, ys, rfl, hn, q⟩ := h
  refine ⟨_, (@pss_consE _ _ _ _ _ _ rfl (@ps_set _ _ 2 _ _ _ _ ndq rfl (Or.inl rfl) (@pe_op _ _ _ _ _ _ _ _ op_add_str pe_str (@pe_ix _ _ _ _ _ _ (rIxL K) ix_list (pv 1) (@pe_op _ _ _ _ _ _ _ _ op_mod (cal DMix hr (@pa_cons _ _ _ _ _ (pv 0) (@pa_cons _ _ _ _ _ pe_int pa_nil rfl) rfl)) pe_int) (fun _ _ => rfl))) rfl (Or.inl rfl))
    (@pss_consE _ _ _ _ _ _ rfl (@ps_set _ _ 3 _ _ _ _ ndq rfl (Or.inl rfl) (cal DOddText hr (@pa_cons _ _ _ _ _ (pv 0) (@pa_cons _ _ _ _ _ (pv 1) pa_nil rfl) rfl)) rfl (Or.inl rfl))
    (@pss_consE _ _ _ _ _ _ rfl (@ps_set _ _ 4 _ _ _ _ ndq rfl (Or.inl rfl) (@pe_lst _ _ _ _ (@pa_cons _ _ _ _ _ pe_str (@pa_cons _ _ _ _ _ pe_str (@pa_cons _ _ _ _ _ (@pe_op _ _ _ _ _ _ _ _ op_add_str pe_str (pv 2)) (@pa_cons _ _ _ _ _ (@pe_op _ _ _ _ _ _ _ _ op_add_str pe_str (pv 2)) (@pa_cons _ _ _ _ _ (@pe_op _ _ _ _ _ _ _ _ op_add_str (@pe_op _ _ _ _ _ _ _ _ op_add_str pe_str (pv 2)) pe_str) (@pa_cons _ _ _ _ _ (@pe_op _ _ _ _ _ _ _ _ op_add_str pe_str (pv 2)) (@pa_cons _ _ _ _ _ (@pe_op _ _ _ _ _ _ _ _ op_add_str (@pe_op _ _ _ _ _ _ _ _ op_add_str pe_str (pv 2)) pe_str) pa_nil rfl) rfl) rfl) rfl) rfl) rfl) rfl)) rfl (Or.inl rfl))
    (@pss_consE _ _ _ _ _ _ rfl (@ps_set _ _ 4 _ _ _ _ ndq rfl (Or.inl rfl) (@pe_op _ _ _ _ _ _ _ _ op_cat (pv 4) (@pe_lst _ _ _ _ (@pa_cons _ _ _ _ _ (@pe_op _ _ _ _ _ _ _ _ op_add_str pe_str (pv 2)) (@pa_cons _ _ _ _ _ (@pe_op _ _ _ _ _ _ _ _ op_add_str (@pe_op _ _ _ _ _ _ _ _ op_add_str pe_str (pv 2)) pe_str) (@pa_cons _ _ _ _ _ (@pe_op _ _ _ _ _ _ _ _ op_add_str pe_str (pv 2)) (@pa_cons _ _ _ _ _ (@pe_op _ _ _ _ _ _ _ _ op_add_str (@pe_op _ _ _ _ _ _ _ _ op_add_str pe_str (pv 2)) pe_str) pa_nil rfl) rfl) rfl) rfl))) rfl (Or.inl rfl))
    (@pss_consE _ _ _ _ _ _ rfl (ps_expr (pe_bm PySem.F.plainAttrs_list PySem.F.slot_list_append PySem.F.type_list_append mt_append (pv 4) (@pa_cons _ _ _ _ _ (@pe_op _ _ _ _ _ _ _ _ op_add_str (@pe_op _ _ _ _ _ _ _ _ op_add_str (@pe_op _ _ _ _ _ _ _ _ op_add_str (@pe_op _ _ _ _ _ _ _ _ op_add_str (@pe_op _ _ _ _ _ _ _ _ op_add_str pe_str (pv 2)) pe_str) (pv 2)) pe_str) (pv 2)) pa_nil rfl)))
    (@pss_consE _ _ _ _ _ _ rfl (@ps_set _ _ 5 _ _ _ _ ndq rfl (Or.inl rfl) (cal DOddPath hr (@pa_cons _ _ _ _ _ (pv 0) (@pa_cons _ _ _ _ _ (pv 1) pa_nil rfl) rfl)) rfl (Or.inl rfl))
    (@pss_consE _ _ _ _ _ _ rfl (@ps_set _ _ 4 _ _ _ _ ndq rfl (Or.inl rfl) (@pe_op _ _ _ _ _ _ _ _ op_cat (pv 4) (@pe_lst _ _ _ _ (@pa_cons _ _ _ _ _ (@pe_op _ _ _ _ _ _ _ _ op_add_str (@pe_op _ _ _ _ _ _ _ _ op_add_str (@pe_op _ _ _ _ _ _ _ _ op_add_str pe_str (pv 2)) pe_str) (pv 3)) (@pa_cons _ _ _ _ _ (@pe_op _ _ _ _ _ _ _ _ op_add_str (@pe_op _ _ _ _ _ _ _ _ op_add_str (@pe_op _ _ _ _ _ _ _ _ op_add_str pe_str (pv 2)) pe_str) (pv 3)) (@pa_cons _ _ _ _ _ (@pe_op _ _ _ _ _ _ _ _ op_add_str (@pe_op _ _ _ _ _ _ _ _ op_add_str pe_str (pv 5)) pe_str) pa_nil rfl) rfl) rfl))) rfl (Or.inl rfl))
    (@pss_consE _ _ _ _ _ _ rfl (@ps_set _ _ 4 _ _ _ _ ndq rfl (Or.inl rfl) (@pe_op _ _ _ _ _ _ _ _ op_cat (pv 4) (@pe_lst _ _ _ _ (@pa_cons _ _ _ _ _ (@pe_op _ _ _ _ _ _ _ _ op_add_str pe_str (pv 5)) (@pa_cons _ _ _ _ _ (@pe_op _ _ _ _ _ _ _ _ op_add_str (@pe_op _ _ _ _ _ _ _ _ op_add_str pe_str (pv 2)) pe_str) (@pa_cons _ _ _ _ _ (@pe_op _ _ _ _ _ _ _ _ op_add_str pe_str (pv 2)) (@pa_cons _ _ _ _ _ (@pe_op _ _ _ _ _ _ _ _ op_add_str (@pe_op _ _ _ _ _ _ _ _ op_add_str pe_str (pv 2)) pe_str) pa_nil rfl) rfl) rfl) rfl))) rfl (Or.inl rfl))
    (@pss_one _ _ _ (@ps_ret _ _ _ _ (@pe_ix _ _ _ _ _ _ (rIxL K) ix_list (pv 4) (@pe_op _ _ _ _ _ _ _ _ op_mod (cal DMix hr (@pa_cons _ _ _ _ _ (pv 0) (@pa_cons _ _ _ _ _ pe_int pa_nil rfl) rfl)) pe_int) (fun _ _ => rfl)))))))))))), ?_⟩
  refine ⟨_, rfl, _, rfl, c, 3, rfl, by decide, fun r1 _ _ => ⟨r1, 6, rfl, rfl, (by show (0 : Int) < 6; decide), hn.pick fun y1 n1 => ⟨"/", y1, rfl, rfl, ?_, ?_⟩⟩⟩
  · have := (nm_all n1).2.2
    rw [← str_len] at this
    exact Nat.le_trans (Nat.add_le_add_left this _) (by decide)
  have eP : sgn ("/" ++ y1 : Str) = 47 :: sgn y1 := by rw [sgn_app]; rfl
  have gP : Pa1 (sgn ("/" ++ y1 : Str)) := ⟨_, eP, n1⟩
  generalize ("/" ++ y1 : Str) = pa at eP gP
  have lP := gP.len
  refine ⟨_, rfl, _, rfl, c, n, ys, rfl, hn, fun so H1 s1 oo => ?_⟩
  have hn1 := hn.up s1
  refine sq ((or_1 rfl rfl gP lP).lst (by decide) fun L1 l1 H2 nL1 s2 f2 len1 o1 => ?_)
  refine sq ((or_2 rfl rfl gP lP).cat rfl f2 o1 (by rw [len1]; decide) fun L2 l2 H3 nL2 s3 f3 len2 o2 => ?_)
  have len2' : l2.length = 11 := by rw [len2, len1]
  refine sd ((or_5 rfl rfl gP lP).app (oddr_11 gP) rfl f3 o2 (by rw [len2']; decide) fun l3 len3 o3 => ?_)
  have s02 := s1.trans s2
  have s03 := (s02.trans s3).put (o := .lst (l3.map V.str)) (s02.free nL2)
  refine ⟨_, rfl, _, rfl, c, n, ys, rfl, hn.up s03, fun sw H4 s4 ow => ?_⟩
  refine sq ((or_3 rfl rfl gP lP rfl rfl oo oo.len rfl rfl ow ow.len).cat rfl (s4 _ _ upd_same) o3 (by rw [len3, len2']; decide) fun L5 l5 H5 nL5 s5 f5 len5 o5 => ?_)
  have len5' : l5.length = 15 := by rw [len5, len3, len2']
  refine sq ((or_4 rfl rfl gP lP rfl rfl ow ow.len).cat rfl f5 o5 (by rw [len5']; decide) fun L6 l6 H6 nL6 s6 f6 len6 o6 => ?_)
  refine ⟨_, rfl, _, rfl, c, 7, rfl, by decide, fun r2 _ _ => ⟨r2, 19, rfl, rfl, (by show (0 : Int) < 19; decide), pick_txt (n := 19) f6 (by rw [len6, len5']) (by decide) o6 fun s9 o9 => q s9 H6 (((s03.trans s4).trans s5).trans s6) o9⟩⟩
theorem ok_NoText {c fi : Nat → Addr} {cB : Addr} {f : Addr} {fd : FuncData} (F : Fq K "_law_no_text" 54 f fd) (T : Txt mg) (DReadDoc : DfD P w K mg base "read_doc" ["text"] 12 (spRead c)) (DReadPath : DfD P w K mg base "read_path" ["text"] 7 (spRPath c K)) (DReadRows : DfD P w K mg base "read_rows" ["text"] 18 (spRRows c)) (N : Nm mg c cB) (kn : Kn K c cB fi) : FnOk P w K mg base CX0 20 f fd ["_law_way", "_law_text"] spNoT := by
  obtain ⟨fReadDoc, dReadDoc, kReadDoc, bReadDoc, mReadDoc, GReadDoc⟩ := DReadDoc.ex
  obtain ⟨fReadPath, dReadPath, kReadPath, bReadPath, mReadPath, GReadPath⟩ := DReadPath.ex
  obtain ⟨fReadRows, dReadRows, kReadRows, bReadRows, mReadRows, GReadRows⟩ := DReadRows.ex
  refine F.oq ["_law_way", "_law_text", "e", "_law_some"] fun H _ _ ndq _ hr h => ?_
  obtain ⟨w0, v0, i0, rfl, k0, q⟩ := h
  have hrReadDoc : Room 12 _ := hr.mm
  have hrReadPath : Room 7 _ := hr.mm
  have hrReadRows : Room 18 _ := hr.mm
  have kitX := kn.kit 5 (by decide)
  refine ⟨_, (pss_cons (ps_tryY rfl rfl rfl (psx_if (pt_cmpR op_eq (pv 0) pe_int (nomark _)) (psx_expr (px_call GReadDoc hrReadDoc rfl mReadDoc kReadDoc bReadDoc (pa1 (pv 1)))) (psx_if (pt_cmpR op_eq (pv 0) pe_int (nomark _)) (psx_expr (px_call GReadPath hrReadPath rfl mReadPath kReadPath bReadPath (pa1 (pv 1)))) (psx_expr (px_call GReadRows hrReadRows rfl mReadRows kReadRows bReadRows (pa1 (pv 1)))))) (ph_cons rfl N.BoughError (kn.exB) ndq (i := 2) rfl rfl (fun e => (pss_cons (ps_se 3 ndq (pe_lst (pa_cons (pe_callB (call_isiH kitX : CallR _ _ (IsiH K (c 5))) rfl T.isinstance b_isinstance (pa_cons (pv 2) (pa1 (pe_glob (v := .ref (c 2)) rfl N.NoRow rfl)))) (pa_cons (pe_callB (call_isiH kitX : CallR _ _ (IsiH K (c 5))) rfl T.isinstance b_isinstance (pa_cons (pv 2) (pa1 (pe_glob (v := .ref (c 3)) rfl N.NoFit rfl)))) (pa_cons (pe_callB (call_isiH kitX : CallR _ _ (IsiH K (c 5))) rfl T.isinstance b_isinstance (pa_cons (pv 2) (pa1 (pe_glob (v := .ref (c 4)) rfl N.NoPatch rfl)))) (pa1 (pe_callB (call_isiH kitX : CallR _ _ (IsiH K (c 5))) rfl T.isinstance b_isinstance (pa_cons (pv 2) (pa1 (pe_glob (v := .ref (c 6)) rfl N.Clash rfl))))))))))
    (pss_cons (ps_se 3 ndq (pe_op op_cat (pv 3) (pe_lst (pa_cons (pe_callB (call_isiH kitX : CallR _ _ (IsiH K (c 5))) rfl T.isinstance b_isinstance (pa_cons (pv 2) (pa1 (pe_glob (v := .ref (c 0)) rfl N.NoPart rfl)))) (pa1 (pe_callB (call_isiH kitX : CallR _ _ (IsiH K (c 5))) rfl T.isinstance b_isinstance (pa_cons (pv 2) (pa1 (pe_glob (v := .ref (c 1)) rfl N.NoDeed rfl)))))))))
    (pss_cons (ps_if (PW.pt (pw_or (pt_not (pt_val (pe_callB (call_isiH kitX : CallR _ _ (IsiH K (c 5))) rfl T.isinstance b_isinstance (pa_cons (pv 2) (pa1 (pe_glob (v := .ref (c 5)) rfl N.NoText rfl)))))) (pw_or (pt_not (pt_val (isi (call_isiH kitX : CallR _ _ (IsiH K (c 5))) T (pv 2) T.ValueError b_ValueError))) (pw_or1 (pt_cmpR (op_in_seq : OpR _ _ (rIn K false)) pe_bl (pv 3) rfl))))) (pss_one (ps_ret pe_non)) pss_nil)
    (pss_one (ps_ret (ixl K (pe_lst (pa_cons pe_non (pa1 (show PE _ _ (tFldE K _ _) from pe_fldE (pv 2) (by rfl))))) (pe_callTy call_int1 rfl T.int b_int (pa1 (pe_and (isi call_isiN T (show PE _ _ (tFldE K _ _) from pe_fldE (pv 2) (by rfl)) T.int b_int) (pe_one (pe_not (isi call_isiN T (show PE _ _ (tFldE K _ _) from pe_fldE (pv 2) (by rfl)) T.bool b_bool)))))))))))))
    ph_nil))
    (pss_one (ps_ret pe_non))), ?_⟩
  refine no_ok (c := c) (K := K) k0 _ fun d H1 s1 hf => ⟨.inl rfl, .inr ⟨c 5, rfl, kn.ex 5 (by decide), .hit (kn.sub 5 (by decide)) fun ea he => ?_⟩⟩
  obtain ⟨dx2, rfl, hdx2⟩ : ∃ dx, d = some dx ∧ H1 dx = some (XdO dx [("at", .int (i0 : Int))]) := by
    rcases hf with h | ⟨_, dx, rfl, h⟩
    · exact absurd h.1 (by decide)
    · exact ⟨dx, rfl, h⟩
  have t1 := Same.new (o := ExcH ea (c 5) (some dx2)) he
  have hE : upd H1 ea (ExcH ea (c 5) (some dx2)) ea = some (ExcH ea (c 5) (some dx2)) := upd_same
  have hx := t1 _ _ hdx2
  have S2 := s1.trans t1
  generalize upd H1 ea (ExcH ea (c 5) (some dx2)) = H2 at hE hx S2 ⊢
  have hd : ∀ H', Same H2 H' → (some dx2 = none ∨ ∃ dx' fs, some dx2 = some dx' ∧ H' dx' = some (XdO dx' fs)) := fun H' s => .inr ⟨dx2, _, rfl, s _ _ hx⟩
  have s0 := Same.refl H2
  have on : ∀ {j : Nat}, j < 7 → PySem.W.kitOne K (.ref (c 5)) (.ref (c j)) = some (j == 5) := fun {j} hj => kn.one 5 (by decide) j hj
  refine ⟨_, rfl, ea, some dx2, _, _, _, rfl, hE, hd _ s0, fun _ z => z, on (j := 2) (by decide), _, rfl, ea, some dx2, _, _, _, rfl, hE, hd _ s0, fun _ z => z, on (j := 3) (by decide), _, rfl, ea, some dx2, _, _, _, rfl, hE, hd _ s0, fun _ z => z, on (j := 4) (by decide), _, rfl, ea, some dx2, _, _, _, rfl, hE, hd _ s0, fun _ z => z, on (j := 6) (by decide), le_line (show 4 ≤ 1000 by decide), .mk fun l1 H3 _ t2 k1 => ?_⟩
  refine ⟨_, rfl, _, rfl, ea, some dx2, _, _, _, rfl, t2 _ _ hE, hd _ t2, fun _ z => z, on (j := 0) (by decide), _, rfl, ea, some dx2, _, _, _, rfl, t2 _ _ hE, hd _ t2, fun _ z => z, on (j := 1) (by decide), two_line, .mk fun l2 H4 _ t3 k2 => ?_⟩
  refine ⟨l1, l2, _, _, rfl, rfl, t3 _ _ k1, k2, le_line (show 4 + 2 ≤ 1000 by decide), .mk fun l3 H5 _ t4 k3 => ?_⟩
  have t24 := (t2.trans t3).trans t4
  refine ⟨_, rfl, ea, some dx2, _, _, _, rfl, t24 _ _ hE, hd _ t24, fun _ z => z, on (j := 5) (by decide), _, rfl, iteBF rfl ⟨_, rfl, ea, some dx2, _, _, _, rfl, t24 _ _ hE, hd _ t24, fun _ z => z, kn.ve 5 (by decide), _, rfl, iteBF rfl ?_⟩⟩
  have S5 := S2.trans t24
  have hE5 := t24 _ _ hE
  have hx5 := t24 _ _ hx
  refine ⟨_, rfl, l3, _, rfl, .inl (SqL.of k3), rfl, rfl, _, rfl, iteBF (by decide) ?_⟩
  refine ⟨_, rfl, ea, c 5, dx2, _, i0, rfl, hE5, hx5, rfl, kn.gk 3 (by decide), two_line, .mk fun l4 H6 _ t5 k4 => ?_⟩
  refine ⟨_, rfl, ea, c 5, dx2, _, i0, rfl, t5 _ _ hE5, t5 _ _ hx5, rfl, kn.gk 3 (by decide), _, "int", "int", rfl, rfl, .int _, _, rfl, iteBT rfl ?_⟩
  refine ⟨_, rfl, ea, c 5, dx2, _, i0, rfl, t5 _ _ hE5, t5 _ _ hx5, rfl, kn.gk 3 (by decide), _, "bool", "int", rfl, rfl, .int _, _, rfl, ?_⟩
  exact .inr ⟨_, rfl, l4, _, 1, _, rfl, rfl, SqL.of k4, rfl, q H6 (S5.trans t5)⟩
theorem ok_Rows {f : Addr} {fd : FuncData} (F : Fq K "_law_rows" 55 f fd) (T : Txt mg) (DMix : Df P w K mg base "_law_mix" ["_law_cell_here", "_law_k"] 1 spMix) (DOddRow : Df P w K mg base "_law_odd_row" ["_law_cell_here", "_law_names_here"] 4 spOddRo) : FnOk P w K mg base CX0 5 f fd ["_law_cell_here", "_law_names_here"] spRowsL := by
  refine F.oq ["_law_cell_here", "_law_names_here", "_law_path", "_law_good", "_law_many", "_law_rows_here", "_law_at", "_law_behind", "_law_odd"] fun H En _ ndq _ hr h => ?_
  obtain ⟨c, n, ys, rfl, hn, q⟩ := h
  refine ⟨_, (@pss_consE _ _ _ _ _ _ rfl (@ps_set _ _ 2 _ _ _ _ ndq rfl (Or.inl rfl) (@pe_op _ _ _ _ _ _ _ _ op_add_str pe_str (@pe_ix _ _ _ _ _ _ (rIxL K) ix_list (pv 1) (@pe_op _ _ _ _ _ _ _ _ op_mod (cal DMix hr (@pa_cons _ _ _ _ _ (pv 0) (@pa_cons _ _ _ _ _ pe_int pa_nil rfl) rfl)) pe_int) (fun _ _ => rfl))) rfl (Or.inl rfl))
    (@pss_consE _ _ _ _ _ _ rfl (@ps_set _ _ 3 _ _ _ _ ndq rfl (Or.inr rfl) (@pe_lst _ _ _ _ (@pa_cons _ _ _ _ _ (@pe_op _ _ _ _ _ _ _ _ op_add_str pe_str (pv 2)) (@pa_cons _ _ _ _ _ pe_str (@pa_cons _ _ _ _ _ (@pe_op _ _ _ _ _ _ _ _ op_add_str (@pe_op _ _ _ _ _ _ _ _ op_add_str pe_str (pv 2)) pe_str) (@pa_cons _ _ _ _ _ pe_str (@pa_cons _ _ _ _ _ (@pe_op _ _ _ _ _ _ _ _ op_add_str pe_str (pv 2)) (@pa_cons _ _ _ _ _ pe_str pa_nil rfl) rfl) rfl) rfl) rfl) rfl)) rfl (Or.inl rfl))
    (@pss_consE _ _ _ _ _ _ rfl (@ps_set _ _ 4 _ _ _ _ ndq rfl (Or.inl rfl) (@pe_op _ _ _ _ _ _ _ _ op_mod (cal DMix hr (@pa_cons _ _ _ _ _ (pv 0) (@pa_cons _ _ _ _ _ pe_int pa_nil rfl) rfl)) pe_int) rfl (Or.inl rfl))
    (@pss_consE _ _ _ _ _ _ rfl (ps_setComp (i := 5)  (fv := ["_law_good", "_law_cell_here"]) (fs := [3, 0]) rfl (.of (by rfl)) ndq rfl (Or.inl rfl) (pi_range1 rfl T.range (@pa_cons _ _ _ _ _ (pv 4) pa_nil rfl)) (fun _ _ _ _ => pts_nil) (fun C s0 H0 fp => (@pe_ix _ _ _ _ _ _ (rIxL K) ix_list (pv 1) (@pe_op _ _ _ _ _ _ _ _ op_mod (@pe_op _ _ _ _ _ _ _ _ op_add (cal DMix hr (@pa_cons _ _ _ _ _ (pv 2) (@pa_cons _ _ _ _ _ pe_int pa_nil rfl) rfl)) (pv 0)) pe_int) (fun _ _ => rfl))))
    (@pss_consE _ _ _ _ _ _ rfl (@ps_set _ _ 6 _ _ _ _ ndq rfl (Or.inl rfl) (@pe_op _ _ _ _ _ _ _ _ op_mod (@pe_op _ _ _ _ _ _ _ _ op_fdiv (cal DMix hr (@pa_cons _ _ _ _ _ (pv 0) (@pa_cons _ _ _ _ _ pe_int pa_nil rfl) rfl)) pe_int) (@pe_op _ _ _ _ _ _ _ _ op_add (pv 4) pe_int)) rfl (Or.inl rfl))
    (@pss_consE _ _ _ _ _ _ rfl (@ps_set _ _ 7 _ _ _ _ ndq rfl (Or.inl rfl) (@pe_ix _ _ _ _ _ _ (rIxL K) ix_list (@pe_lst _ _ _ _ (@pa_cons _ _ _ _ _ (cal DOddRow hr (@pa_cons _ _ _ _ _ (@pe_op _ _ _ _ _ _ _ _ op_add (pv 0) pe_int) (@pa_cons _ _ _ _ _ (pv 1) pa_nil rfl) rfl)) (@pa_cons _ _ _ _ _ (@pe_ix _ _ _ _ _ _ (rIxL K) ix_list (pv 3) pe_int (fun _ _ => rfl)) pa_nil rfl) rfl)) (@pe_op _ _ _ _ _ _ _ _ op_mod (@pe_op _ _ _ _ _ _ _ _ op_fdiv (cal DMix hr (@pa_cons _ _ _ _ _ (pv 0) (@pa_cons _ _ _ _ _ pe_int pa_nil rfl) rfl)) pe_int) pe_int) (fun _ _ => rfl)) rfl (Or.inl rfl))
    (@pss_consE _ _ _ _ _ _ rfl (@ps_set _ _ 8 _ _ _ _ ndq rfl (Or.inl rfl) (cal DOddRow hr (@pa_cons _ _ _ _ _ (pv 0) (@pa_cons _ _ _ _ _ (pv 1) pa_nil rfl) rfl)) rfl (Or.inl rfl))
    (@pss_consE _ _ _ _ _ _ rfl (@ps_if _ _ _ _ _ _ _ _ (PW.pt (pw_and (pt_cmpR op_eq (pv 4) pe_int (nomark _)) (pw_and1 (pt_cmpR op_eq (pv 8) pe_str (nomark _))))) (@pss_one _ _ _ (@ps_ret _ _ _ _ (@pe_tup _ _ _ _ _ (@pa_cons _ _ _ _ _ pe_str (@pa_cons _ _ _ _ _ pe_int pa_nil rfl) rfl)))) pss_nil)
    (@pss_consE _ _ _ _ _ _ rfl (@ps_if _ _ _ _ _ _ _ _ (pt_cmpR op_gt (pv 4) pe_int (nomark _)) (@pss_one _ _ _ (ps_expr (pe_bm PySem.F.plainAttrs_list PySem.F.slot_list_append PySem.F.type_list_append mt_append (pv 5) (@pa_cons _ _ _ _ _ (pv 7) pa_nil rfl)))) pss_nil)
    (@pss_one _ _ _ (@ps_ret _ _ _ _ (@pe_tup _ _ _ _ _ (@pa_cons _ _ _ _ _ (pe_bm PySem.F.plainAttrs_str PySem.F.slot_str_join PySem.F.type_str_join mt_join pe_str (@pa_cons _ _ _ _ _ (@pe_op _ _ _ _ _ _ _ _ op_cat (@pe_op _ _ _ _ _ _ _ _ op_cat (pe_slice (r := rSlL K) sl_list (pv 5) po_none (po_some (pv 6))) (@pe_lst _ _ _ _ (@pa_cons _ _ _ _ _ (pv 8) pa_nil rfl))) (pe_slice (r := rSlL K) sl_list (pv 5) (po_some (pv 6)) po_none)) pa_nil rfl)) (@pa_cons _ _ _ _ _ (pv 6) pa_nil rfl) rfl))))))))))))), ?_⟩
  refine ⟨_, rfl, _, rfl, c, 3, rfl, by decide, fun r1 _ _ => ⟨r1, 6, rfl, rfl, (by show (0 : Int) < 6; decide), hn.pick fun y1 n1 => ⟨"/", y1, rfl, rfl, ?_, ?_⟩⟩⟩
  · have := (nm_all n1).2.2
    rw [← str_len] at this
    exact Nat.le_trans (Nat.add_le_add_left this _) (by decide)
  have eP : sgn ("/" ++ y1 : Str) = 47 :: sgn y1 := by rw [sgn_app]; rfl
  have gP : Pa1 (sgn ("/" ++ y1 : Str)) := ⟨_, eP, n1⟩
  generalize ("/" ++ y1 : Str) = pa at eP gP
  have lP := gP.len
  refine gn (sq ((gr_1 rfl rfl gP lP).lst (by decide) fun L1 gl H1 nL1 s1 f1 len1 o1 => ?_))
  refine ⟨_, rfl, c, 8, rfl, by decide, fun r2 _ _ => ⟨r2, 5, rfl, rfl, (by show (0 : Int) < 5; decide), ?_⟩⟩
  have mb := mod_b r2 (n := 5) (by decide)
  obtain ⟨m, em⟩ := Int.eq_ofNat_of_zero_le mb.1
  rw [em] at mb
  rw [em]
  have m4 : m ≤ 4 := by have := mb.2; lia
  refine ⟨_, rfl, (m : Int), rfl, by lia, by lia, ?_⟩
  rw [Int.toNat_natCast]
  refine comp_txt (P := GoodR) (Nat.le_trans m4 (by decide)) (fun i H2 hi s2 R k => ?_) fun L2 gs H2 nL2 s2 f2 len2 o2 => ?_
  · exact ⟨_, rfl, _, rfl, c, 9, rfl, by decide, fun r3 _ _ => ⟨_, rfl, r3, _, rfl, rfl, _, 6, rfl, rfl, (by show (0 : Int) < 6; decide), pick_txt (n := 6) (s2 _ _ f1) len1 (by decide) o1 k⟩⟩
  have s02 := s1.trans s2
  refine ⟨_, rfl, c, 9, rfl, by decide, fun r4 _ _ => ⟨r4, 6, rfl, rfl, dec2_, _, rfl, (m : Int), 1, rfl, rfl, _, _, rfl, rfl, (by show (0 : Int) < (m : Int) + 1; lia), ?_⟩⟩
  have ab := mod_b (r4 / 6) (n := (m : Int) + 1) (by lia)
  obtain ⟨a, ea⟩ := Int.eq_ofNat_of_zero_le ab.1
  rw [ea] at ab
  rw [ea]
  have am : a ≤ m := by have := ab.2; lia
  obtain ⟨g0, hg0, og0⟩ : ∃ g0, atI (gl.map V.str) 0 = some (.str g0) ∧ GoodR (sgn g0) := by
    match gl, len1 with
    | g0 :: r, _ => exact ⟨g0, at0, o1 g0 List.mem_cons_self⟩
  refine ⟨_, rfl, _, _, rfl, rfl, _, rfl, c + 4, n, ys, rfl, hn.up s02, fun sb H3 s3 ob => ⟨_, rfl, L1, _, 0, _, rfl, rfl, SqL.of (s3 _ _ (s2 _ _ f1)), hg0, two_line, .mk fun L3 H4 n4 s4 f4 => ?_⟩⟩
  refine ⟨_, rfl, c, 8, rfl, by decide, fun r5 _ _ => ⟨r5, 5, rfl, rfl, dec2_, _, _, rfl, rfl, (by show (0 : Int) < 2; decide), ?_⟩⟩
  refine pick_txt (P := FrL) (n := 2) (ss := [sb, g0]) f4 rfl (by decide) (fun z hz => ?_) fun b1 ob1 => ?_
  · rcases List.mem_cons.mp hz with rfl | hz
    · exact ob.fl
    · rw [List.mem_singleton.mp hz]; exact og0.fl
  have s04 := (s02.trans s3).trans s4
  refine ⟨_, rfl, _, rfl, c, n, ys, rfl, hn.up s04, fun so H5 s5 oo => ?_⟩
  have s05 := s04.trans s5
  have f5 := s5 _ _ (s4 _ _ (s3 _ _ f2))
  refine ⟨_, rfl, rfl, _, rfl, ?_⟩
  have fin : ∀ (bs : List Str) (H6 : Hp), bs.length ≤ 1 → (∀ b ∈ bs, FrL (sgn b)) → (gs ++ bs = [] → so ≠ "") → Same H H6 → H6 L2 = some (.lst ((gs ++ bs).map V.str)) → tRet (tTup (tCons (tBM K "str" (rJoin K) (tC (V.str "; ")) (tCons (tOp rCat (tOp rCat (tSl (rSlL K) (tVar 5) tNoPart (tPart (tVar 6))) (tLst (tCons (tVar 8) tNil))) (tSl (rSlL K) (tVar 5) (tPart (tVar 6)) tNoPart)) tNil)) (tCons (tVar 6) tNil))) En [some (.int c), some (.ref n), some (.str pa), some (.ref L1), some (.int (m : Int)), some (.ref L2), some (.int (a : Int)), some (.str b1), some (.str so)] H6 := fun bs H6 lb hb ne s6 f6 => by
    have RT := rows_text (gs := gs) (bs := bs) (o := so) (i := a) o2 hb oo (by rw [len2]; exact am) (by rw [len2]; exact m4) lb ne
    have al : a ≤ (gs ++ bs).length := by rw [List.length_append, len2]; exact Nat.le_trans am (Nat.le_add_right _ _)
    have ls : (gs ++ bs).length ≤ 5 := by rw [List.length_append, len2]; lia
    refine ⟨rfl, _, rfl, _, rfl, (a : Int), rfl, L2, _, rfl, SqL.of f6, .mk fun p7 H7 n7 s7 f7 => ?_⟩
    rw [cutT_to al] at f7
    refine ⟨_, rfl, one_line, .mk fun p8 H8 n8 s8 f8 => ?_⟩
    refine ⟨p7, p8, _, _, rfl, rfl, s8 _ _ f7, f8, ?_, .mk fun p9 H9 n9 s9 f9 => ?_⟩
    · rw [List.length_map, List.length_take, List.length_singleton]
      exact le_line (show _ ≤ 1000 by lia)
    refine ⟨_, rfl, _, rfl, (a : Int), rfl, L2, _, rfl, SqL.of (s9 _ _ (s8 _ _ (s7 _ _ f6))), .mk fun pA HA nA sA fA => ?_⟩
    rw [cutT_from al] at fA
    refine ⟨p9, pA, _, _, rfl, rfl, sA _ _ f9, fA, ?_, .mk fun pB HB nB sB fB => ?_⟩
    · rw [List.length_append, List.length_map, List.length_take, List.length_singleton, List.length_map, List.length_drop]
      exact le_line (show _ ≤ 1000 by lia)
    have eB : (((gs ++ bs).take a).map V.str ++ [V.str so] ++ ((gs ++ bs).drop a).map V.str) = ((gs ++ bs).take a ++ [so] ++ (gs ++ bs).drop a).map V.str := by
      rw [List.map_append, List.map_append]; rfl
    rw [eB] at fB
    refine ⟨"; ", pB, _, rfl, rfl, SqL.of fB, RT.sum, _, rfl, two_line, .mk fun pC HC nC sC fC => ?_⟩
    exact q pC _ a HC ((((((s6.trans s7).trans s8).trans s9).trans sA).trans sB).trans sC) fC RT.len RT.ne RT.bad
  by_cases hm : m = 0
  · subst hm
    refine iteBT rfl ⟨_, rfl, rfl, _, rfl, ?_⟩
    rw [str_dec]
    by_cases hs : so = ""
    · refine iteBT (decide_eq_true hs) ⟨two_line, .mk fun pC HC nC sC fC => ?_⟩
      obtain ⟨w1, w2, w3⟩ := rows_emp
      exact q pC "; " 0 HC (s05.trans sC) fC w1 w2 w3
    · refine iteBF (decide_eq_false hs) ⟨_, rfl, _, _, rfl, rfl, _, rfl, iteBF rfl ?_⟩
      exact fin [] H5 (by decide) (fun b hb => nomatch hb) (fun _ => hs) s05 (by rw [List.append_nil]; exact f5)
  · have nm0 : ¬ V.int (m : Int) = V.int 0 := fun z => hm (by injection z with z; lia)
    refine iteBF (decide_eq_false nm0) (iteBF rfl ⟨_, rfl, _, _, rfl, rfl, _, rfl, iteBT (decide_eq_true (by lia)) ?_⟩)
    refine ⟨_, rfl, .inl ⟨rfl, _, SqL.of f5⟩, _, rfl, L2, _, _, rfl, rfl, f5, ?_, ?_⟩
    · rw [List.length_map, len2]; exact small1000 (Nat.le_trans m4 (by decide))
    · exact fin [b1] _ (Nat.le_refl 1) (fun b hb => by rw [List.mem_singleton.mp hb]; exact ob1) (fun z => by simp at z) (s05.put (s1.free nL2)) (by rw [upd_same, List.map_append]; rfl)
theorem ok_Law {f : Addr} {fd : FuncData} (F : Fq K "law" 56 f fd) (T : Txt mg) (DShownDoc : Df P w K mg base "shown_doc" ["doc"] 7 spShow) (DReadDoc : DfD P w K mg base "read_doc" ["text"] 12 (spRead c)) (DReadPath : DfD P w K mg base "read_path" ["text"] 7 (spRPath c K)) (DCell : Df P w K mg base "_law_cell" ["_law_script", "_law_k"] 1 (spCell K)) (DMix : Df P w K mg base "_law_mix" ["_law_cell_here", "_law_k"] 1 spMix) (DNames : Df P w K mg base "_law_names" ["_law_cell_here"] 2 spNames1) (DOddText : Df P w K mg base "_law_odd_text" ["_law_cell_here", "_law_names_here"] 3 spOddTx) (DOddPath : Df P w K mg base "_law_odd_path" ["_law_cell_here", "_law_names_here"] 2 spOddPa) (DNoText : Df P w K mg base "_law_no_text" ["_law_way", "_law_text"] 20 spNoT) (DRows : Df P w K mg base "_law_rows" ["_law_cell_here", "_law_names_here"] 5 spRowsL) : FnOk P w K mg base CX0 22 f fd ["_law_script"] (spLaw K) := by
  obtain ⟨fReadDoc, dReadDoc, kReadDoc, bReadDoc, mReadDoc, GReadDoc⟩ := DReadDoc.ex
  obtain ⟨fReadPath, dReadPath, kReadPath, bReadPath, mReadPath, GReadPath⟩ := DReadPath.ex
  refine F.oq ["_law_script", "_law_names_here", "_law_far", "_law_k", "_law_cell_here", "_law_rows_here", "_law_at", "_law_way", "_law_thing", "_law_deep"] fun H _ tn ndq _ hr h => ?_
  obtain ⟨a, ns, rfl, hS, hlen, q⟩ := h
  have hrReadDoc : Room 12 _ := hr.mm
  have hrReadPath : Room 7 _ := hr.mm
  refine ⟨_, (@pss_consE _ _ _ _ _ _ rfl (@ps_set _ _ 1 _ _ _ _ ndq rfl (Or.inl rfl) (cal DNames hr (@pa_cons _ _ _ _ _ (cal DCell hr (@pa_cons _ _ _ _ _ (pv 0) (@pa_cons _ _ _ _ _ pe_int pa_nil rfl) rfl)) pa_nil rfl)) rfl (Or.inl rfl))
    (@pss_consE _ _ _ _ _ _ rfl (@ps_set _ _ 2 _ _ _ _ ndq rfl (Or.inl rfl) (@pe_op _ _ _ _ _ _ _ _ op_add_str (@pe_op _ _ _ _ _ _ _ _ op_add_str (@pe_op _ _ _ _ _ _ _ _ op_add_str (@pe_op _ _ _ _ _ _ _ _ op_add_str (@pe_op _ _ _ _ _ _ _ _ op_mul_str pe_str pe_int) pe_str) (@pe_ix _ _ _ _ _ _ (rIxL K) ix_list (pv 1) pe_int (fun _ _ => rfl))) pe_str) (@pe_op _ _ _ _ _ _ _ _ op_mul_str pe_str pe_int)) rfl (Or.inl rfl))
    (@pss_consE _ _ _ _ _ _ rfl (fo1 (pi_range1 rfl T.range (@pa_cons _ _ _ _ _ pe_int pa_nil rfl)) (pg_na 3 ndq) (@pss_consE _ _ _ _ _ _ rfl (@ps_set _ _ 4 _ _ _ _ ndq rfl (Or.inl rfl) (cal DCell hr (@pa_cons _ _ _ _ _ (pv 0) (@pa_cons _ _ _ _ _ (@pe_op _ _ _ _ _ _ _ _ op_add pe_int (pv 3)) pa_nil rfl) rfl)) rfl (Or.inl rfl))
    (@pss_consE _ _ _ _ _ _ rfl (ps_asg (cal DRows hr (@pa_cons _ _ _ _ _ (pv 4) (@pa_cons _ _ _ _ _ (pv 1) pa_nil rfl) rfl)) (pg_tup rfl (pgs_cons (pg_na 5 ndq) (pgs_cons (pg_na 6 ndq) pgs_nil))))
    (@pss_consE _ _ _ _ _ _ rfl (@ps_if _ _ _ _ _ _ _ _ (pt_cmpR op_ne (cal DNoText hr (@pa_cons _ _ _ _ _ pe_int (@pa_cons _ _ _ _ _ (cal DOddText hr (@pa_cons _ _ _ _ _ (pv 4) (@pa_cons _ _ _ _ _ (pv 1) pa_nil rfl) rfl)) pa_nil rfl) rfl)) pe_int (nomark _)) (@pss_one _ _ _ (@ps_ret _ _ _ _ pe_bl)) pss_nil)
    (@pss_consE _ _ _ _ _ _ rfl (@ps_if _ _ _ _ _ _ _ _ (pt_cmpR op_ne (cal DNoText hr (@pa_cons _ _ _ _ _ pe_int (@pa_cons _ _ _ _ _ (cal DOddPath hr (@pa_cons _ _ _ _ _ (pv 4) (@pa_cons _ _ _ _ _ (pv 1) pa_nil rfl) rfl)) pa_nil rfl) rfl)) pe_int (nomark _)) (@pss_one _ _ _ (@ps_ret _ _ _ _ pe_bl)) pss_nil)
    (@pss_consE _ _ _ _ _ _ rfl (@ps_if _ _ _ _ _ _ _ _ (pt_cmpR op_ne (cal DNoText hr (@pa_cons _ _ _ _ _ pe_int (@pa_cons _ _ _ _ _ (pv 5) pa_nil rfl) rfl)) (pv 6) (nomark _)) (@pss_one _ _ _ (@ps_ret _ _ _ _ pe_bl)) pss_nil)
    (@pss_consE _ _ _ _ _ _ rfl (@ps_if _ _ _ _ _ _ _ _ (pt_cmpR (op_neT (Room.units0 hr)) (pe_call GReadPath hrReadPath rfl mReadPath kReadPath bReadPath .nil passND (@pa_cons _ _ _ _ _ (@pe_op _ _ _ _ _ _ _ _ op_add_str (@pe_op _ _ _ _ _ _ _ _ op_add_str pe_str (@pe_ix _ _ _ _ _ _ (rIxL K) ix_list (pv 1) pe_int (fun _ _ => rfl))) pe_str) pa_nil rfl)) (@pe_tup _ _ _ _ _ (@pa_cons _ _ _ _ _ (@pe_ix _ _ _ _ _ _ (rIxL K) ix_list (pv 1) pe_int (fun _ _ => rfl)) (@pa_cons _ _ _ _ _ pe_int pa_nil rfl) rfl)) (nomark _)) (@pss_one _ _ _ (@ps_ret _ _ _ _ pe_bl)) pss_nil)
    (@pss_one _ _ _ (fo1 (pi_range1 rfl T.range (@pa_cons _ _ _ _ _ pe_int pa_nil rfl)) (pg_na 7 ndq) (@pss_consE _ _ _ _ _ _ rfl (@ps_set _ _ 8 _ _ _ _ ndq rfl (Or.inl rfl) (@pe_ix _ _ _ _ _ _ (rIxL K) ix_list (@pe_lst _ _ _ _ (@pa_cons _ _ _ _ _ pe_non (@pa_cons _ _ _ _ _ pe_int (@pa_cons _ _ _ _ _ (@pe_lst _ _ _ _ (@pa_cons _ _ _ _ _ pe_str pa_nil rfl)) (@pa_cons _ _ _ _ _ (@pe_tup _ _ _ _ _ (@pa_cons _ _ _ _ _ pe_str pa_nil rfl)) (@pa_cons _ _ _ _ _ pe_bl (@pa_cons _ _ _ _ _ pe_dnewK pa_nil rfl) rfl) rfl) rfl) rfl) rfl)) (@pe_op _ _ _ _ _ _ _ _ op_mod (@pe_op _ _ _ _ _ _ _ _ op_add (cal DMix hr (@pa_cons _ _ _ _ _ (pv 4) (@pa_cons _ _ _ _ _ pe_int pa_nil rfl) rfl)) (pv 7)) pe_int) (fun _ _ => rfl)) rfl (Or.inl rfl))
    (@pss_one _ _ _ (@ps_if _ _ _ _ _ _ _ _ (pt_cmpR op_ne (cal DNoText hr (@pa_cons _ _ _ _ _ (pv 7) (@pa_cons _ _ _ _ _ (pv 8) pa_nil rfl) rfl)) pe_int (nomark _)) (@pss_one _ _ _ (@ps_ret _ _ _ _ pe_bl)) pss_nil))))))))))))
    (@pss_consE _ _ _ _ _ _ rfl (@ps_set _ _ 9 _ _ _ _ ndq rfl (Or.inl rfl) (@pe_op _ _ _ _ _ _ _ _ op_add_str (@pe_op _ _ _ _ _ _ _ _ op_add_str (@pe_op _ _ _ _ _ _ _ _ op_mul_str pe_str pe_int) pe_str) (@pe_op _ _ _ _ _ _ _ _ op_mul_str pe_str pe_int)) rfl (Or.inl rfl))
    (@pss_consE _ _ _ _ _ _ rfl (@ps_if _ _ _ _ _ _ _ _ (PW.pt (pw_or (pt_cmpR op_ne (cal DShownDoc hr (@pa_cons _ _ _ _ _ (pe_call GReadDoc hrReadDoc rfl mReadDoc kReadDoc bReadDoc .nil passND (@pa_cons _ _ _ _ _ (pv 9) pa_nil rfl)) pa_nil rfl)) (pv 9) (nomark _)) (pw_or1 (pt_cmpR op_ne (cal DNoText hr (@pa_cons _ _ _ _ _ pe_int (@pa_cons _ _ _ _ _ (@pe_op _ _ _ _ _ _ _ _ op_add_str (@pe_op _ _ _ _ _ _ _ _ op_add_str pe_str (pv 9)) pe_str) pa_nil rfl) rfl)) pe_int (nomark _))))) (@pss_one _ _ _ (@ps_ret _ _ _ _ pe_bl)) pss_nil)
    (@pss_one _ _ _ (@ps_ret _ _ _ _ (pe_and (pe_cmpR op_eq (cal DNoText hr (@pa_cons _ _ _ _ _ pe_int (@pa_cons _ _ _ _ _ (pv 2) pa_nil rfl) rfl)) pe_int (nomark _)) (pe_one (pe_cmpR op_eq (cal DNoText hr (@pa_cons _ _ _ _ _ pe_int (@pa_cons _ _ _ _ _ (@pe_op _ _ _ _ _ _ _ _ op_mul_str pe_str pe_int) pa_nil rfl) rfl)) pe_int (nomark _))))))))))), ?_⟩
  refine ⟨_, rfl, a, ns, 0, rfl, hS, fun c0 _ => ⟨c0, rfl, fun n ys H1 s1 nn hn ly nd0 ny => ?_⟩⟩
  clear nd0 nn
  have hN : Nm6 H1 n ys := ⟨hn, ly, ny⟩
  have hS1 := s1.seq hS
  obtain ⟨y0, y1, a0, a1, g0, g1⟩ := nm_at ly ny
  have l0 := (nm_all g0).2.2
  have l1 := (nm_all g1).2.2
  refine gn (sq (lw_far rfl hn a0 rfl l0 _ fun far ef => ?_))
  have lf := far_len ef l0
  have pf : pd (sgn far) = none := by rw [ef]; exact pd_far g0
  clear ef
  refine ⟨10, rfl, by decide, by decide, for_range (lo := 0) (n := 10) (fun i σ Hi => ∃ o3 o4 o5 o6 o7 o8 : Option V, σ = [some (.ref a), some (.ref n), some (.str far), o3, o4, o5, o6, o7, o8, none] ∧ Same H1 Hi) ⟨_, _, _, _, _, _, rfl, Same.refl _⟩ ?_ ?_⟩
  · rintro i σ Hi _ go hi ⟨o3, o4, o5, o6, o7, o8, rfl, si0⟩
    refine ⟨_, rfl, _, rfl, _, _, rfl, rfl, a, ns, 1 + i, cell_at, si0.seq hS1, fun cc _ => ?_⟩
    refine ⟨_, rfl, _, rfl, cc, n, ys, rfl, hN.up si0, fun pr tx i1 H2 s2 f2 lx nx bx => ?_⟩
    refine ⟨pr, _, rfl, SqT.of f2, rfl, _, _, rfl, _, _, rfl, rfl, ?_⟩
    have t2 := si0.trans s2
    refine ⟨_, rfl, _, rfl, cc, n, ys, rfl, hN.up t2, fun so H3 s3 oo => ⟨0, _, 0, rfl, .doc so (by rw [str_len]; exact Nat.le_trans oo.len (by decide)) oo.raw, fun H4 s4 => ⟨rfl, _, rfl, iteBF rfl ?_⟩⟩⟩
    have t4 := (t2.trans s3).trans s4
    refine ⟨_, rfl, _, rfl, cc, n, ys, rfl, hN.up t4, fun sp H5 s5 op => ⟨1, _, 0, rfl, .path sp (by rw [str_len]; exact Nat.le_trans op.len (by decide)) op.no, fun H6 s6 => ⟨rfl, _, rfl, iteBF rfl ?_⟩⟩⟩
    have t6 := (t4.trans s5).trans s6
    refine ⟨_, rfl, 2, _, i1, rfl, .rows tx i1 lx nx bx, fun H7 s7 => ⟨_, rfl, rfl, _, rfl, iteBF (by simp) ?_⟩⟩
    have t7 := t6.trans s7
    refine si (tst (tp (cl1 (lw_path rfl (t7 _ _ hn) a1 rfl l1 _ fun px ep => ?_))))
    refine .txt px rfl (path_len ep l1) (fun vs ev p9 H9 s9 f9 => ?_) (fun en => by rw [path_two g1 ep] at en; cases en)
    rw [path_two g1 ep] at ev
    cases ev
    have t9 := t7.trans s9
    refine ⟨_, rfl, n, _, 1, _, rfl, rfl, SqL.of (t9 _ _ hn), a1, two_line, .mk fun pA HA nA sA fA => ⟨p9, pA, _, _, rfl, rfl, sA.tup f9, SqT.of fA, flat_two, flat_two, _, rfl, iteBF (by rw [eqTs_self flat_two]; rfl) ?_⟩⟩
    have tA := t9.trans sA
    refine ⟨3, rfl, by decide, by decide, for_range (lo := 0) (n := 3) (fun j σ Hj => ∃ o7 o8 : Option V, σ = [some (.ref a), some (.ref n), some (.str far), some (.int (0 + (i : Int))), some (.int cc), some (.str tx), some (.int (i1 : Int)), o7, o8, none] ∧ Same H1 Hj) ⟨_, _, rfl, tA⟩ ?_ ?_⟩
    · rintro j σ Hj _ go2 hj ⟨o7, o8, rfl, sj⟩
      refine ⟨one_line, .mk fun q1 J1 m1 u1 k1 => ⟨one_line, .mk fun q2 J2 m2 u2 k2 => fun q3 m3 => ?_⟩⟩
      have u3 := Same.new (o := .dK []) m3
      have k3 : upd J2 q3 (.dK []) q3 = some (.dK []) := upd_same
      generalize upd J2 q3 (.dK []) = J3 at u3 k3
      refine ⟨le_line (show 6 ≤ 1000 by decide), .mk fun L J4 m4 u4 k4 => ?_⟩
      refine ⟨_, rfl, cc, 9, rfl, by decide, fun r _ _ => ⟨_, rfl, r, _, rfl, rfl, _, _, rfl, rfl, (by show (0 : Int) < 6; decide), ?_⟩⟩
      have mb := mod_b (r + (0 + (j : Int))) (n := 6) (by decide)
      obtain ⟨v, hv, hm⟩ := pick_mem (xs := [V.non, .int 5, .ref q1, .ref q2, .bl true, .ref q3]) mb.1 (by exact mb.2)
      have nS : NoS J4 v := by
        simp only [List.mem_cons, List.not_mem_nil, or_false] at hm
        rcases hm with rfl | rfl | rfl | rfl | rfl | rfl
        · exact ⟨_, .non, by decide⟩
        · exact ⟨_, .int 5, by decide⟩
        · exact ⟨_, .lst (.inl (u4 _ _ (u3 _ _ (u2 _ _ k1)))), by decide⟩
        · exact ⟨_, .tup (u4 _ _ (u3 _ _ k2)), by decide⟩
        · exact ⟨_, .bl true, by decide⟩
        · exact ⟨_, .dK (.inl (u4 _ _ k3)), by decide⟩
      obtain ⟨T, ty, tn'⟩ := nS
      refine ⟨L, _, _, v, rfl, rfl, SqL.of k4, hv, ?_⟩
      refine ⟨_, rfl, _, rfl, j, v, 0, way_at, .odd j v T hj ty tn', fun J5 u5 => ⟨rfl, _, rfl, iteBF rfl ?_⟩⟩
      exact go2.n ⟨_, _, rfl, ((((sj.trans u1).trans u2).trans u3).trans u4).trans u5⟩
    · rintro σ Hj ⟨o7, o8, rfl, sj⟩
      exact go.n ⟨_, _, _, _, _, _, rfl, sj⟩
  · rintro σ Hi ⟨o3, o4, o5, o6, o7, o8, rfl, si0⟩
    refine sq (lw_deep _ fun dp ed => ?_)
    have ld : dp.length ≤ 1000 := by rw [str_len, ed, nest_len]; decide
    refine ⟨_, rfl, .txt dp rfl ld (fun t et v H2 s2 dv => ?_) (fun en => by rw [ed, pd_deep] at en; cases en)⟩
    rw [ed, pd_deep] at et
    cases et
    refine ⟨v, 99, rfl, dv.ch 99 rfl, by decide, fun sx H3 s3 ex => ⟨_, rfl, rfl, _, rfl, ?_⟩⟩
    obtain rfl : sx = dp := sgn_inj (ex.trans ed.symm)
    refine iteBF (by simp) ?_
    refine tst (tp (cl2 (lw_deep2 rfl ed _ fun d2 e2 => ?_)))
    refine ⟨0, _, 0, rfl, .doc d2 (by rw [str_len, e2, List.length_cons, List.length_append, nest_len]; decide) (by rw [e2]; exact pd_deep2), fun H4 s4 => ⟨rfl, _, rfl, iteBF rfl ?_⟩⟩
    refine ⟨_, rfl, 0, _, 0, rfl, .doc far lf pf, fun H5 s5 => ⟨rfl, _, rfl, iteBT rfl ?_⟩⟩
    refine tp (cl2 (lw_open _ fun d3 e3 => ?_))
    exact ⟨0, _, 0, rfl, .doc d3 (by rw [str_len, e3, List.length_replicate]; decide) (by rw [e3]; exact pd_open), fun H6 s6 => ⟨rfl, q H6⟩⟩
theorem ok_ReaderInit {C : Addr} {f : Addr} {fd : FuncData} (F : Fun K "__init__" "Reader.__init__" sReaderInit f fd) (T : Txt mg) (cC : Cls K C) (nT : NoAttr K C "text") (nP : NoAttr K C "place") : FnOk P w K mg base CX0 1 f fd ["self", "text"] (spRIni C) := by
  refine F.oq ["self", "text"] fun H _ tn _ _ hr h => ?_
  obtain ⟨a, dx, x, rfl, h, lx, q⟩ := h
  refine ⟨_, (pss_cons (ps_fld (pv 0) (pv 1) rfl)
    (pss_one (ps_fld (pv 0) pe_int rfl))), ?_⟩
  refine ⟨_, rfl, _, rfl, a, C, dx, [], rfl, h, cC, nT, by decide, _, rfl, a, C, dx, _, rfl, upd_same, cC, nP, (show 1 < 1000 by decide), tn (q _ (fun b o e g => by rw [upd_ne e, upd_ne e]; exact g) ?_)⟩
  exact ⟨dx, _, upd_same, rfl, rfl, Nat.zero_le _, lx, rfl, rfl, rfl, (show 2 ≤ 2 by decide)⟩
theorem ok_ReaderPasses {C gE : Addr} {fdE : FuncData} {f : Addr} {fd : FuncData} (F : Fun K "passes" "Reader.passes" sReaderPasses f fd) (T : Txt mg) (cC : Cls K C) (nT : NoAttr K C "text") (nP : NoAttr K C "place") (mE : Meth K C "ended" gE) (bE : Binds K fdE ["self"] []) (GE : FnOk P w K mg base CX0 1 gE fdE ["self"] (spEnded C)) : FnOk P w K mg base CX0 2 f fd ["self", "sign"] (spPasses C) := by
  refine F.oq ["self", "sign"] fun H _ _ _ _ hr h => ?_
  obtain ⟨a, x, s, p, c, rfl, hs, r, q1, q2⟩ := h
  have hrE : Room 1 _ := hr.mono (by decide)
  refine ⟨_, (pss_cons (ps_if (PW.pt (pw_or (pt_val (pe_meth0 (pv 0) cC mE GE hrE bE .nil pass0)) (pw_or1 (pt_cmpR op_ne (pe_ix ix_str (pe_fld (pv 0) (by rfl)) (pe_fld (pv 0) (by rfl)) (fun _ _ => rfl)) (pv 1) (nomark _))))) (pss_one (ps_ret pe_bl)) pss_nil)
    (pss_cons (ps_fld (pv 0) (pe_op op_add (pe_fld (pv 0) (by rfl)) pe_int) rfl)
    (pss_one (ps_ret pe_bl)))), ?_⟩
  obtain ⟨dx, fs, h, t, pl, le, lx, n1, n2, n3, lf⟩ := id r
  refine ⟨_, rfl, a, dx, fs, rfl, h, n3, a, x, p, rfl, r, _, rfl, ite2B (fun er => ?_) (fun er => ?_)⟩
  · have e := rest_end (of_decide_eq_true er)
    exact iteBT rfl (q2 fun t z => by rw [e] at z; cases z)
  · have hlt : p < x.length := Nat.lt_of_le_of_ne le (of_decide_eq_false er)
    obtain ⟨d, hd, hr0⟩ := rest_at hlt
    refine ⟨_, rfl, a, C, dx, fs, _, rfl, h, cC, nT, t, _, rfl, a, C, dx, fs, _, rfl, h, cC, nP, pl, x, _, d, rfl, rfl, big_line lx, atI_nat (by rw [Array.getElem?_toList]; exact hd), _, rfl, rfl, _, rfl, ?_⟩
    have es := str_one hs
    subst es
    rw [one_dec]
    by_cases hc : d = c
    · subst hc
      obtain ⟨dx', fs', h', _, r'⟩ := r.put hlt
      rw [h] at h'
      cases h'
      exact iteBF (by simp) ⟨_, rfl, a, C, dx, fs, _, rfl, h, cC, nP, pl, _, _, rfl, rfl, _, rfl, a, C, dx, fs, rfl, h, cC, nP, Nat.lt_of_le_of_lt lf (by decide), q1 _ _ hr0 (fun b o e g => by rw [upd_ne e]; exact g) r'⟩
    · exact iteBT (by simp [hc]) (q2 fun t z => by rw [hr0] at z; cases z; exact hc rfl)
theorem ok_ReaderRunOf {C gE : Addr} {fdE : FuncData} {f : Addr} {fd : FuncData} (F : Fun K "run_of" "Reader.run_of" sReaderRunOf f fd) (T : Txt mg) (cC : Cls K C) (nT : NoAttr K C "text") (nP : NoAttr K C "place") (mE : Meth K C "ended" gE) (bE : Binds K fdE ["self"] []) (GE : FnOk P w K mg base CX0 1 gE fdE ["self"] (spEnded C)) : FnOk P w K mg base CX0 2 f fd ["self", "signs"] (spRun C) := by
  refine F.oq ["self", "signs", "start"] fun H En _ ndq _ hr h => ?_
  obtain ⟨a, x, s1, p, rfl, r, ls, q⟩ := h
  have hrE : Room 1 _ := hr.mono (by decide)
  refine ⟨_, (pss_cons (ps_se 2 ndq (pe_fld (pv 0) (by rfl)))
    (pss_cons (ps_while PassesOwn.never (PW.pt (pw_and (pt_not (pt_val (pe_meth0 (pv 0) cC mE GE hrE bE .nil pass0))) (pw_and1 (pt_cmpR op_in_str (pe_ix ix_str (pe_fld (pv 0) (by rfl)) (pe_fld (pv 0) (by rfl)) (fun _ _ => rfl)) (pv 1) rfl)))) (pss_one (ps_fld (pv 0) (pe_op op_add (pe_fld (pv 0) (by rfl)) pe_int) rfl)))
    (pss_one (ps_ret (pe_slice sl_str (pe_fld (pv 0) (by rfl)) (po_some (pv 2)) (po_some (pe_fld (pv 0) (by rfl)))))))), ?_⟩
  obtain ⟨dx, fs, h, t, pl, le, lx, n1, n2, n3, lf⟩ := id r
  refine ⟨_, rfl, a, C, dx, fs, _, rfl, h, cC, nP, pl, ?_⟩
  dsimp only [gName, tSeq]
  refine while_W (fun m σ Hw => ∃ k, σ = [some (.ref a), some (.str s1), some (.int (p : Int))] ∧ ButA a H Hw ∧ Rdr C Hw a x (p + k) ∧ m = x.length - (p + k) ∧ (restOf x p).takeWhile (fun c => decide (c ∈ sgn s1)) = (restOf x p).take k ++ (restOf x (p + k)).takeWhile (fun c => decide (c ∈ sgn s1))) (x.length - p) ⟨0, rfl, ButA.refl, r, rfl, by simp⟩ ?_ ?_
  · clear dx fs h t pl le n1 n2 n3 lf
    rintro m σ Hw _ go ⟨k, rfl, bw, rw0, rfl, ek⟩
    obtain ⟨dx, fs, h, t, pl, le, lx, n1, n2, n3, lf⟩ := id rw0
    have sl : (sgn x).length = x.length := Array.length_toList
    have fin : (restOf x (p + k)).takeWhile (fun c => decide (c ∈ sgn s1)) = [] → En.rt (.str (Txt.slice x (some (p : Int)) (some ((p + k : Nat) : Int)))) Hw := fun e => by
      have es : sgn (Txt.slice x (some (p : Int)) (some ((p + k : Nat) : Int))) = (restOf x p).take k := by
        rw [sgn_slice, cutN_mid _ _ _ (Nat.le_add_right _ _) (by rw [sl]; exact le), Nat.add_sub_cancel_left]
        rfl
      have wl : (Txt.slice x (some (p : Int)) (some ((p + k : Nat) : Int))).length = k := by
        have e1 : (Txt.slice x (some (p : Int)) (some ((p + k : Nat) : Int))).length = (sgn (Txt.slice x (some (p : Int)) (some ((p + k : Nat) : Int)))).length := Array.length_toList.symm
        rw [e1, es]
        unfold restOf
        rw [List.length_take, List.length_drop, sl]
        lia
      refine q _ Hw ?_ (by rw [wl]; lia) bw (by rw [wl]; exact rw0)
      rw [es, ek, e, List.append_nil]
    have out : (restOf x (p + k)).takeWhile (fun c => decide (c ∈ sgn s1)) = [] → tRet (tSl rSlS (tFld K (tVar 0) "text") (tPart (tVar 2)) (tPart (tFld K (tVar 0) "place"))) En [some (.ref a), some (.str s1), some (.int (p : Int))] Hw := fun e =>
      ⟨_, rfl, a, C, dx, fs, _, rfl, h, cC, nT, t, _, rfl, (p : Int), rfl, _, rfl, a, C, dx, fs, _, rfl, h, cC, nP, pl, ((p + k : Nat) : Int), rfl, x, rfl, big_line lx, fin e⟩
    refine ⟨_, rfl, a, dx, fs, rfl, h, n3, a, x, p + k, rfl, rw0, _, rfl, ite2B (fun er => ?_) (fun er => ?_)⟩
    · have hne : ¬ p + k = x.length := fun z => by rw [decide_eq_true z] at er; cases er
      have hlt : p + k < x.length := Nat.lt_of_le_of_ne le hne
      obtain ⟨d, hd, hr0⟩ := rest_at hlt
      refine ⟨_, rfl, a, C, dx, fs, _, rfl, h, cC, nT, t, _, rfl, a, C, dx, fs, _, rfl, h, cC, nP, pl, x, _, d, rfl, rfl, big_line lx, atI_nat (by rw [Array.getElem?_toList]; exact hd), _, rfl, _, _, rfl, rfl, _, rfl, ?_⟩
      rw [StrLaws.found_one]
      refine ite2B (fun e2 => ?_) (fun e2 => ?_)
      · obtain ⟨dx', fs', h', _, r'⟩ := rw0.put hlt
        rw [h] at h'
        cases h'
        refine ⟨_, rfl, a, C, dx, fs, _, rfl, h, cC, nP, pl, _, _, rfl, rfl, _, rfl, a, C, dx, fs, rfl, h, cC, nP, Nat.lt_of_le_of_lt lf (by decide), ?_⟩
        refine go.n ⟨x.length - (p + (k + 1)), by lia, k + 1, rfl, bw.trans (fun b o e g => by rw [upd_ne e]; exact g), r', rfl, ?_⟩
        rw [ek, hr0, List.takeWhile_cons, if_pos e2]
        have : (restOf x p).take (k + 1) = (restOf x p).take k ++ [d] := by
          rw [List.take_add_one]
          congr 1
          unfold restOf
          rw [List.getElem?_drop]
          have : (sgn x)[p + k]? = some d := by show x.cps.toList[p + k]? = some d; rw [Array.getElem?_toList]; exact hd
          rw [this]; rfl
        rw [this, List.append_assoc]
        rfl
      · exact out (by rw [hr0, List.takeWhile_cons, if_neg (by rw [show decide (d ∈ sgn s1) = false from e2]; decide)])
    · have he : p + k = x.length := by
        by_cases z : p + k = x.length
        · exact z
        · rw [decide_eq_false z] at er; cases er
      exact iteBF rfl (out (by rw [rest_end he]; rfl))
  · rintro σ H1 Q Q' hq ⟨v, e1, o, dx, fs, e2, e3, e4, a1, x1, p1, e5, r1, c1, e6, q1⟩
    refine ⟨v, e1, o, dx, fs, e2, e3, e4, a1, x1, p1, e5, r1, c1, e6, ?_⟩
    cases c1 with
    | true => exact hq false H1 q1
    | false =>
      obtain ⟨u1, f1, a2, C2, d2, g2, w2, i1, i2, i3, i4, i5, u2, f2, a3, C3, d3, g3, w3, j1, j2, j3, j4, j5, z, i, c, k1, k2, k3, k4, u3, f3, s2, s3, m1, m2, b, m3, qq⟩ := q1
      exact ⟨u1, f1, a2, C2, d2, g2, w2, i1, i2, i3, i4, i5, u2, f2, a3, C3, d3, g3, w3, j1, j2, j3, j4, j5, z, i, c, k1, k2, k3, k4, u3, f3, s2, s3, m1, m2, b, m3, hq _ _ qq⟩
theorem ok_ReaderEnded {C : Addr} {f : Addr} {fd : FuncData} (F : Fun K "ended" "Reader.ended" sReaderEnded f fd) (T : Txt mg) (cC : Cls K C) (nT : NoAttr K C "text") (nP : NoAttr K C "place") : FnOk P w K mg base CX0 1 f fd ["self"] (spEnded C) := by
  refine F.oq ["self"] fun H _ _ _ _ hr h => ?_
  obtain ⟨a, x, p, rfl, r, q⟩ := h
  refine ⟨_, (pss_one (ps_ret (pe_cmpR op_eq (pe_fld (pv 0) (by rfl)) (pe_callB call_len_str rfl T.len PySem.boot_len (pa1 (pe_fld (pv 0) (by rfl)))) (nomark _)))), ?_⟩
  obtain ⟨dx, fs, h, t, pl, le, lx, _, _, _, _⟩ := r
  refine ⟨_, rfl, a, C, dx, fs, _, rfl, h, cC, nP, pl, _, rfl, a, C, dx, fs, _, rfl, h, cC, nT, t, x, rfl, big_line lx, rfl, ?_⟩
  rw [int_dec]
  exact q
end
end K92

set_option Elab.async false
set_option linter.all false
set_option maxRecDepth 100000
set_option maxHeartbeats 40000000
namespace K92
open PySem L2
abbrev NZ (K : PySem.W.Frag) (x : Str) : Prop := PySem.W.nsIn K mainGlobals x = some none
theorem nz {K : PySem.W.Frag} {x : Str} (h : PySem.W.nsIn K mainGlobals x = some none) : NZ K x := h
theorem ls {P : List Value → Prop} {n : Nat} (h : ∀ a r, r.length = n → P (a :: r)) : ∀ us, us.length = n + 1 → P us := fun us e => by
  cases us with
  | nil => cases e
  | cons a r => exact h a r (Nat.succ.inj e)
theorem lz {P : List Value → Prop} (h : P []) : ∀ us, us.length = 0 → P us := fun us e => by
  cases us with
  | nil => exact h
  | cons a r => cases e
theorem gn {K : PySem.W.Frag} {mg : Str → Option Value} {h : Heap} {x : Str} {st : Stmt} (X : K.In h) (G : h.Ns mainGlobals mg) (A : FA K x st) (ps : List Str)
    (b : ∀ (kV doc pm : Value) (an : Option Addr) (cdv ct : Value) (us : List Value), us.length = ps.length → bindArgs (PySem.W.fnOf x x (defArgs st) (defBody st) (defScope st) .none kV doc pm an cdv ct) ⟨us, []⟩ = pure (ps.zip us) := by intro _ _ _ _ _ _; (repeat refine ls fun _ => ?_); exact lz rfl) : ∃ f fd, Fun K x x st f fd ∧ Binds K fd ps [] ∧ mg x = some (.ref f) := by
  obtain ⟨f, fd, F, a⟩ := A
  exact ⟨f, fd, F, F.binds b, PySem.W.mg_of X G a⟩
theorem dk {P : Program} {w : World} {K : PySem.W.Frag} {mg : Str → Option Value} {base : Heap} {x : Str} {st : Stmt} {n : Nat} {sp : Sp} {ps : List Str} (g : ∃ f fd, Fun K x x st f fd ∧ Binds K fd ps [] ∧ mg x = some (.ref f))
    (ok : ∀ f fd, Fun K x x st f fd → Binds K fd ps [] → mg x = some (.ref f) → FnOk P w K mg base CX0 n f fd ps sp) : Df P w K mg base x ps n sp := by
  obtain ⟨f, fd, F, b, m⟩ := g
  exact .mk' F b m (ok f fd F b m)
theorem all_mk {l : PySem.W.OpenLaw} {w : World} {K : PySem.W.Frag} {h : Heap} {mg : Str → Option Value} {fa f34 : Addr} (X : K.In h) (G : h.Ns mainGlobals mg) (hfa : mg "law" = some (.ref fa))
    {od34 an34 : Option Addr} {sl34 : Array (Option Value)} {oc34 kV34 dc34 pm34 cd34 ct34 : Value}
    {tk1 tk2 tk3 tk4 tk5 tk6 : Tok}
    {cBoughError cNoPart cNoDeed cNoRow cNoFit cNoPatch cNoText cClash : Addr}
    {fiNoText : Addr} {iodNoText ianNoText : Option Addr} {islNoText : Array (Option Value)} {ikVNoText idcNoText ipmNoText icdNoText ictNoText : Value}
    (h1 : Fb K "gathered" 1)
    (h2 : Fb K "folded" 2)
    (h3 : Fb K "has_letters_alone" 7)
    (h4 : Fb K "is_name" 8)
    (h5 : Fb K "steps_of" 9)
    (h6 : Fb K "inner_of" 10)
    (h7 : Fb K "add_at" 11)
    (h8 : Fb K "refuse_unless" 29)
    (h9 : Fb K "shown_doc" 30)
    (h10 : Fb K "shown_part" 31)
    (h11 : Fb K "read_doc" 32)
    (h12 : Fb K "begun" 33)
    (h13 : Fb K "begun_holder" 34)
    (h14 : Fb K "gone_on" 35)
    (h15 : Fb K "end_of" 36)
    (h16 : Fb K "name_in" 37)
    (h17 : Fb K "letters_in" 38)
    (h18 : Fb K "number_in" 39)
    (h19 : Fb K "number_of" 40)
    (h20 : Fb K "read_path" 41)
    (h21 : Fb K "step_of" 42)
    (h22 : Fb K "read_rows" 43)
    (h23 : Fb K "read_row" 44)
    (h24 : Fb K "read_thing" 45)
    (h25 : Fb K "_law_cell" 47)
    (h26 : Fb K "_law_mix" 48)
    (h27 : Fb K "_law_names" 49)
    (h28 : Fb K "_law_odd_doc" 50)
    (h29 : Fb K "_law_odd_text" 51)
    (h30 : Fb K "_law_odd_path" 52)
    (h31 : Fb K "_law_odd_row" 53)
    (h32 : Fb K "_law_no_text" 54)
    (h33 : Fb K "_law_rows" 55)
    (a34 : PySem.W.nsIn K mainGlobals "law" = some (some (.ref f34))) (l34 : K.lookup f34 = some ⟨oc34, od34, .func (PySem.W.fnOf "law" "law" (defArgs sLaw) (defBody sLaw) (defScope sLaw) .none kV34 dc34 pm34 an34 cd34 ct34), sl34⟩) (c34 : PySem.W.codeIn K cd34 "law" = true) (k34 : PySem.W.keepIn K (.ref f34) = true)
    (z1 : NZ K "isinstance")
    (z2 : NZ K "int")
    (z3 : NZ K "bool")
    (z4 : NZ K "str")
    (z5 : NZ K "list")
    (z6 : NZ K "dict")
    (z7 : NZ K "tuple")
    (z8 : NZ K "len")
    (z9 : NZ K "range")
    (z10 : NZ K "max")
    (z11 : NZ K "min")
    (z12 : NZ K "sorted")
    (z13 : NZ K "all")
    (z14 : NZ K "any")
    (z15 : NZ K "reversed")
    (z16 : NZ K "ValueError")
    (z17 : NZ K "sum")
    (e1 : PySem.W.nsIn K mainGlobals "LETTERS" = some (some (.str "abcdefghijklmnopqrstuvwxyz" tk1)))
    (e2 : PySem.W.nsIn K mainGlobals "LONGEST_NAME" = some (some (.int 8 tk2)))
    (e3 : PySem.W.nsIn K mainGlobals "LONGEST_TEXT" = some (some (.int 12 tk3)))
    (e4 : PySem.W.nsIn K mainGlobals "FIGURES" = some (some (.str "0123456789" tk4)))
    (e5 : PySem.W.nsIn K mainGlobals "MOST_FIGURES" = some (some (.int 60 tk5)))
    (e6 : PySem.W.nsIn K mainGlobals "DEEPEST" = some (some (.int 100 tk6)))
    (xaBoughError : PySem.W.nsIn K mainGlobals "BoughError" = some (some (.ref cBoughError)))
    (xaNoPart : PySem.W.nsIn K mainGlobals "NoPart" = some (some (.ref cNoPart)))
    (xaNoDeed : PySem.W.nsIn K mainGlobals "NoDeed" = some (some (.ref cNoDeed)))
    (xaNoRow : PySem.W.nsIn K mainGlobals "NoRow" = some (some (.ref cNoRow)))
    (xaNoFit : PySem.W.nsIn K mainGlobals "NoFit" = some (some (.ref cNoFit)))
    (xaNoPatch : PySem.W.nsIn K mainGlobals "NoPatch" = some (some (.ref cNoPatch)))
    (xaNoText : PySem.W.nsIn K mainGlobals "NoText" = some (some (.ref cNoText)))
    (xaClash : PySem.W.nsIn K mainGlobals "Clash" = some (some (.ref cClash)))
    (iaNoText : PySem.W.findIn K (.ref cNoText) "__init__" = some (some (.ref fiNoText))) (ilNoText : K.lookup fiNoText = some ⟨.type "function", iodNoText, .func (PySem.W.fnOf "__init__" "NoText.__init__" (defArgs sNoTextInit) (defBody sNoTextInit) (defScope sNoTextInit) .none ikVNoText idcNoText ipmNoText ianNoText icdNoText ictNoText), islNoText⟩) (icNoText : PySem.W.codeIn K icdNoText "NoText.__init__" = true) (ikNoText : PySem.W.keepIn K (.ref fiNoText) = true)
    {fiNoRow fiNoFit fiNoPatch fiClash : Addr}
    (iaNoRow : PySem.W.findIn K (.ref cNoRow) "__init__" = some (some (.ref fiNoRow)))
    (iaNoFit : PySem.W.findIn K (.ref cNoFit) "__init__" = some (some (.ref fiNoFit)))
    (iaNoPatch : PySem.W.findIn K (.ref cNoPatch) "__init__" = some (some (.ref fiNoPatch)))
    (iaClash : PySem.W.findIn K (.ref cClash) "__init__" = some (some (.ref fiClash)))
    (kk : kkB K (fun i => [cNoPart, cNoDeed, cNoRow, cNoFit, cNoPatch, cNoText, cClash].getD i 0) cBoughError (fun i => [0, 0, fiNoRow, fiNoFit, fiNoPatch, fiNoText, fiClash].getD i 0) = true)
    {tLE tWV tKI : Addr} {obLE : Obj} {epLE : Nat} {tA0 tB0 tA1 tB1 tA2 tB2 tA3 tB3 tA4 tB4 tA5 tB5 tA6 tB6 tA7 tB7 tA8 tB8 : Tok} {cReader gRI gRE gRP gRR : Addr} {odRI anRI odRE anRE odRP anRP odRR anRR : Option Addr} {slRI slRE slRP slRR : Array (Option Value)} {ocRI kVRI dcRI pmRI cdRI ctRI ocRE kVRE dcRE pmRE cdRE ctRE ocRP kVRP dcRP pmRP cdRP ctRP ocRR kVRR dcRR pmRR cdRR ctRR : Value}
    (eLE : PySem.W.nsIn K mainGlobals "LENGTHS" = some (some (.ref tLE)))
    (lLE : K.lookup tLE = some obLE)
    (nLE : (tLE == sysModules) = false)
    (xLE : obLE.ExactDict)
    (dLE : obLE.data = .dict (entsOf l.prog w [("put", 3, tA0, tB0), ("take", 2, tA1, tB1), ("change", 3, tA2, tB2), ("move", 3, tA3, tB3), ("copy", 3, tA4, tB4), ("ask", 3, tA5, tB5), ("has", 2, tA6, tB6), ("lacks", 2, tA7, tB7), ("is", 3, tA8, tB8)]).toArray epLE)
    (eWV : PySem.W.nsIn K mainGlobals "WORDS_WITH_VALUE" = some (some (.ref tWV)))
    (hWV : tupB K tWV wordsWV = true)
    (eKI : PySem.W.nsIn K mainGlobals "KINDS" = some (some (.ref tKI)))
    (hKI : tupB K tKI wordsKI = true)
    (zE : NZ K "enumerate")
    (xaReader : PySem.W.nsIn K mainGlobals "Reader" = some (some (.ref cReader)))
    (xfRI : PySem.W.findIn K (.ref cReader) "__init__" = some (some (.ref gRI)))
    (xlRI : K.lookup gRI = some ⟨ocRI, odRI, .func (PySem.W.fnOf "__init__" "Reader.__init__" (defArgs sReaderInit) (defBody sReaderInit) (defScope sReaderInit) .none kVRI dcRI pmRI anRI cdRI ctRI), slRI⟩)
    (xcRI : PySem.W.codeIn K cdRI "Reader.__init__" = true)
    (xkRI : PySem.W.keepIn K (.ref gRI) = true)
    (xfRE : PySem.W.findIn K (.ref cReader) "ended" = some (some (.ref gRE)))
    (xlRE : K.lookup gRE = some ⟨ocRE, odRE, .func (PySem.W.fnOf "ended" "Reader.ended" (defArgs sReaderEnded) (defBody sReaderEnded) (defScope sReaderEnded) .none kVRE dcRE pmRE anRE cdRE ctRE), slRE⟩)
    (xcRE : PySem.W.codeIn K cdRE "Reader.ended" = true)
    (xkRE : PySem.W.keepIn K (.ref gRE) = true)
    (xfRP : PySem.W.findIn K (.ref cReader) "passes" = some (some (.ref gRP)))
    (xlRP : K.lookup gRP = some ⟨ocRP, odRP, .func (PySem.W.fnOf "passes" "Reader.passes" (defArgs sReaderPasses) (defBody sReaderPasses) (defScope sReaderPasses) .none kVRP dcRP pmRP anRP cdRP ctRP), slRP⟩)
    (xcRP : PySem.W.codeIn K cdRP "Reader.passes" = true)
    (xkRP : PySem.W.keepIn K (.ref gRP) = true)
    (xfRR : PySem.W.findIn K (.ref cReader) "run_of" = some (some (.ref gRR)))
    (xlRR : K.lookup gRR = some ⟨ocRR, odRR, .func (PySem.W.fnOf "run_of" "Reader.run_of" (defArgs sReaderRunOf) (defBody sReaderRunOf) (defScope sReaderRunOf) .none kVRR dcRR pmRR anRR cdRR ctRR), slRR⟩)
    (xcRR : PySem.W.codeIn K cdRR "Reader.run_of" = true)
    (xkRR : PySem.W.keepIn K (.ref gRR) = true)
    (xdReader : rdB K cReader gRI gRE gRP gRR = true)
    : ∃ fd : FuncData, (∀ (s : Shared) (v : Value), BindsTo s fd ⟨[v], []⟩ [("_law_script", v)]) ∧ ∀ base : Heap, K.In base → base.Ns mainGlobals mg → FnOk l.prog w K mg base CX0 22 fa fd ["_law_script"] (spLaw K) := by
  have e := hfa.symm.trans (PySem.W.mg_of X G a34)
  cases e
  have gm := fun {x : Str} {v : Value} (a : PySem.W.nsIn K mainGlobals x = some (some v)) => PySem.W.mg_of X G a
  have T : Txt mg := by constructor <;> (apply PySem.W.mg_none_of X G; assumption)
  obtain ⟨f6, d6, F6, b6, m6⟩ := gn X G h6 ["doc"]
  obtain ⟨f8, d8, F8, b8, m8⟩ := gn X G h8 ["holds_good"]
  obtain ⟨f10, d10, F10, b10, m10⟩ := gn X G h10 ["doc", "told"]
  obtain ⟨f11, d11, F11, b11, m11⟩ := gn X G h11 ["text"]
  obtain ⟨f12, d12, F12, b12, m12⟩ := gn X G h12 ["reader", "waiting"]
  obtain ⟨f13, d13, F13, b13, m13⟩ := gn X G h13 ["reader", "waiting", "holder"]
  obtain ⟨f14, d14, F14, b14, m14⟩ := gn X G h14 ["reader", "waiting", "doc"]
  obtain ⟨f16, d16, F16, b16, m16⟩ := gn X G h16 ["reader", "holder", "last"]
  obtain ⟨f17, d17, F17, b17, m17⟩ := gn X G h17 ["reader"]
  obtain ⟨f18, d18, F18, b18, m18⟩ := gn X G h18 ["reader"]
  obtain ⟨f19, d19, F19, b19, m19⟩ := gn X G h19 ["figures"]
  obtain ⟨f20, d20, F20, b20, m20⟩ := gn X G h20 ["text"]
  obtain ⟨f21, d21, F21, b21, m21⟩ := gn X G h21 ["text"]
  obtain ⟨f22, d22, F22, b22, m22⟩ := gn X G h22 ["text"]
  obtain ⟨f23, d23, F23, b23, m23⟩ := gn X G h23 ["text"]
  obtain ⟨f24, d24, F24, b24, m24⟩ := gn X G h24 ["word", "text"]
  have F34 := fun_mk (st := sLaw) l34 c34 k34
  have q_LETTERS := PySem.W.mg_of X G e1
  have q_LONGEST_NAME := PySem.W.mg_of X G e2
  have q_LONGEST_TEXT := PySem.W.mg_of X G e3
  have q_FIGURES := PySem.W.mg_of X G e4
  have q_MOST_FIGURES := PySem.W.mg_of X G e5
  have q_DEEPEST := PySem.W.mg_of X G e6
  have mWV := PySem.W.mg_of X G eWV
  have mKI := PySem.W.mg_of X G eKI
  have mLE := PySem.W.mg_of X G eLE
  have hLE : DicK l.prog w K tLE lens := dicK_strs [("put", 3, tA0, tB0), ("take", 2, tA1, tB1), ("change", 3, tA2, tB2), ("move", 3, tA3, tB3), ("copy", 3, tA4, tB4), ("ask", 3, tA5, tB5), ("has", 2, tA6, tB6), ("lacks", 2, tA7, tB7), ("is", 3, tA8, tB8)] lLE nLE xLE dLE (show List.Nodup [("put" : Str), ("take" : Str), ("change" : Str), ("move" : Str), ("copy" : Str), ("ask" : Str), ("has" : Str), ("lacks" : Str), ("is" : Str)] by decide +kernel)
  have henum := PySem.W.mg_none_of X G zE
  have mC := PySem.W.mg_of X G xaReader
  have FRI := fun_mk (st := sReaderInit) xlRI xcRI xkRI
  have bRI := FRI.binds (ps := ["self", "text"]) fun _ _ _ _ _ _ => by (repeat refine ls fun _ => ?_); exact lz rfl
  have FRE := fun_mk (st := sReaderEnded) xlRE xcRE xkRE
  have bRE := FRE.binds (ps := ["self"]) fun _ _ _ _ _ _ => by (repeat refine ls fun _ => ?_); exact lz rfl
  have FRP := fun_mk (st := sReaderPasses) xlRP xcRP xkRP
  have bRP := FRP.binds (ps := ["self", "sign"]) fun _ _ _ _ _ _ => by (repeat refine ls fun _ => ?_); exact lz rfl
  have FRR := fun_mk (st := sReaderRunOf) xlRR xcRR xkRR
  have bRR := FRR.binds (ps := ["self", "signs"]) fun _ _ _ _ _ _ => by (repeat refine ls fun _ => ?_); exact lz rfl
  have rk := RkK.of xdReader
  have M := rk.M
  have mXBoughError := PySem.W.mg_of X G xaBoughError
  have mXNoPart := PySem.W.mg_of X G xaNoPart
  have mXNoDeed := PySem.W.mg_of X G xaNoDeed
  have mXNoRow := PySem.W.mg_of X G xaNoRow
  have mXNoFit := PySem.W.mg_of X G xaNoFit
  have mXNoPatch := PySem.W.mg_of X G xaNoPatch
  have mXNoText := PySem.W.mg_of X G xaNoText
  have mXClash := PySem.W.mg_of X G xaClash
  have FINoText := fun_mk (st := sNoTextInit) ilNoText icNoText ikNoText
  have bINoText := FINoText.binds (ps := ["self", "at"]) fun _ _ _ _ _ _ => by (repeat refine ls fun _ => ?_); exact lz rfl
  have kn := Kn.of kk
  have N := (⟨mXNoPart, mXNoDeed, mXNoRow, mXNoFit, mXNoPatch, mXNoText, mXClash, mXBoughError⟩ : Nm mg (fun i => [cNoPart, cNoDeed, cNoRow, cNoFit, cNoPatch, cNoText, cClash].getD i 0) cBoughError)
  refine ⟨PySem.W.fnOf "law" "law" (defArgs sLaw) (defBody sLaw) (defScope sLaw) .none kV34 dc34 pm34 an34 cd34 ct34, fun s v => .of_eq rfl, fun base _ _ => ?_⟩
  have dk := @dk l.prog w K mg base
  have I5 : In1 l.prog w K mg base fiNoText ["self", "at"] (spInit1 ((fun i => [cNoPart, cNoDeed, cNoRow, cNoFit, cNoPatch, cNoText, cClash].getD i 0) 5)) := ⟨_, ok_NoTextInit FINoText (kn.sk 3 (by decide)), bINoText, ⟨_, ilNoText, rfl⟩⟩
  have I5N : In1N l.prog w K mg base fiNoText ["self", "at"] (spInit1 ((fun i => [cNoPart, cNoDeed, cNoRow, cNoFit, cNoPatch, cNoText, cClash].getD i 0) 5)) := ⟨_, okN_NoTextInit FINoText (kn.sk 3 (by decide)), bINoText⟩
  have GI := ok_ReaderInit (P := l.prog) (w := w) (base := base) FRI T rk.c rk.nT rk.nP
  have GRE := ok_ReaderEnded (P := l.prog) (w := w) (base := base) FRE T rk.c rk.nT rk.nP
  have GRP := ok_ReaderPasses (P := l.prog) (w := w) (base := base) FRP T rk.c rk.nT rk.nP rk.mE bRE GRE
  have GRR := ok_ReaderRunOf (P := l.prog) (w := w) (base := base) FRR T rk.c rk.nT rk.nP rk.mE bRE GRE
  have RM : RdM l.prog w K mg base cReader := ⟨rk.c, _, _, rk.mE, bRE, GRE, _, _, rk.mP, bRP, GRP, _, _, rk.mR, bRR, GRR⟩
  have bI := bRI
  have DStepsOf0 := dk (gn X G h5 ["doc"]) fun _ _ F b m => ok_StepsOf F T
  have DGathered0 := dk (gn X G h1 ["root", "inner"]) fun _ _ F b m => ok_Gathered F T F6.kp b6 (ok_InnerOf F6 T DStepsOf0)
  have DFolded0 := dk (gn X G h2 ["root", "inner", "join"]) fun _ _ F b m => ok_Folded F T DGathered0 F6.kp b6 (ok_InnerOf F6 T DStepsOf0) F10.kp b10 (ok_ShownPart F10 T DStepsOf0)
  have DShownDoc0 := dk (gn X G h9 ["doc"]) fun _ _ F b m => ok_ShownDoc F T DFolded0 m6 m10
  have DRefuseUnless4 : DfD l.prog w K mg base "refuse_unless" ["holds_good"] 3 (spRU (fun i => [cNoPart, cNoDeed, cNoRow, cNoFit, cNoPatch, cNoText, cClash].getD i 0)) := DfD.mk' F8 b8 m8 (ok_RefuseUnless F8 T N kn I5)
  have DEndOf5 := dk (gn X G h15 ["holder"]) fun _ _ F b m => ok_EndOf F T
  have DHasLettersAlone6 := dk (gn X G h3 ["text"]) fun _ _ F b m => ok_HasLettersAlone F T ⟨_, q_LETTERS⟩
  have DIsName6 := dk (gn X G h4 ["thing"]) fun _ _ F b m => ok_IsName F T DHasLettersAlone6 ⟨_, q_LONGEST_NAME⟩
  have DNameIn6 : DfD l.prog w K mg base "name_in" ["reader", "holder", "last"] 6 (spNmIn (fun i => [cNoPart, cNoDeed, cNoRow, cNoFit, cNoPatch, cNoText, cClash].getD i 0) cReader) := DfD.mk' F16 b16 m16 (ok_NameIn F16 T DIsName6 DRefuseUnless4 RM ⟨_, q_LETTERS⟩)
  have DBegunHolder5 : DfD l.prog w K mg base "begun_holder" ["reader", "waiting", "holder"] 8 (spBH (fun i => [cNoPart, cNoDeed, cNoRow, cNoFit, cNoPatch, cNoText, cClash].getD i 0) cReader) := DfD.mk' F13 b13 m13 (ok_BegunHolder F13 T DEndOf5 DNameIn6 RM)
  have DLettersIn10 : DfD l.prog w K mg base "letters_in" ["reader"] 4 (spLet (fun i => [cNoPart, cNoDeed, cNoRow, cNoFit, cNoPatch, cNoText, cClash].getD i 0) cReader) := DfD.mk' F17 b17 m17 (ok_LettersIn F17 T DRefuseUnless4 RM ⟨_, q_LETTERS⟩ ⟨_, q_LONGEST_TEXT⟩)
  have DNumberOf11 : DfD l.prog w K mg base "number_of" ["figures"] 4 (spNumOf (fun i => [cNoPart, cNoDeed, cNoRow, cNoFit, cNoPatch, cNoText, cClash].getD i 0)) := DfD.mk' F19 b19 m19 (ok_NumberOf F19 T DRefuseUnless4 ⟨_, q_FIGURES⟩ ⟨_, q_MOST_FIGURES⟩)
  have DNumberIn11 : DfD l.prog w K mg base "number_in" ["reader"] 6 (spNumIn (fun i => [cNoPart, cNoDeed, cNoRow, cNoFit, cNoPatch, cNoText, cClash].getD i 0) cReader) := DfD.mk' F18 b18 m18 (ok_NumberIn F18 T DRefuseUnless4 DNumberOf11 RM ⟨_, q_FIGURES⟩)
  have DBegun5 : DfD l.prog w K mg base "begun" ["reader", "waiting"] 10 (spBeg (fun i => [cNoPart, cNoDeed, cNoRow, cNoFit, cNoPatch, cNoText, cClash].getD i 0) cReader) := DfD.mk' F12 b12 m12 (ok_Begun F12 T DRefuseUnless4 DBegunHolder5 DLettersIn10 DNumberIn11 RM ⟨_, q_DEEPEST⟩)
  have DAddAt14 := dk (gn X G h7 ["holder", "step", "thing"]) fun _ _ F b m => ok_AddAt F T
  have DGoneOn14 : DfD l.prog w K mg base "gone_on" ["reader", "waiting", "doc"] 8 (spGone (fun i => [cNoPart, cNoDeed, cNoRow, cNoFit, cNoPatch, cNoText, cClash].getD i 0) cReader) := DfD.mk' F14 b14 m14 (ok_GoneOn F14 T DAddAt14 DRefuseUnless4 DEndOf5 DNameIn6 RM)
  have DReadDoc4 : DfD l.prog w K mg base "read_doc" ["text"] 12 (spRead (fun i => [cNoPart, cNoDeed, cNoRow, cNoFit, cNoPatch, cNoText, cClash].getD i 0)) := DfD.mk' F11 b11 m11 (ok_ReadDoc F11 T DRefuseUnless4 DBegun5 DGoneOn14 RM M mC GI bI)
  have DStepOf17 : DfD l.prog w K mg base "step_of" ["text"] 5 (spStep (fun i => [cNoPart, cNoDeed, cNoRow, cNoFit, cNoPatch, cNoText, cClash].getD i 0)) := DfD.mk' F21 b21 m21 (ok_StepOf F21 T DIsName6 DNumberOf11)
  have DReadPath17 : DfD l.prog w K mg base "read_path" ["text"] 7 (spRPath (fun i => [cNoPart, cNoDeed, cNoRow, cNoFit, cNoPatch, cNoText, cClash].getD i 0) K) := DfD.mk' F20 b20 m20 (ok_ReadPath F20 T DRefuseUnless4 DStepOf17)
  have DCell19 := dk (gn X G h25 ["_law_script", "_law_k"]) fun _ _ F b m => ok_Cell F T
  have DMix20 := dk (gn X G h26 ["_law_cell_here", "_law_k"]) fun _ _ F b m => okW_Mix F T
  have DNames21 := dk (gn X G h27 ["_law_cell_here"]) fun _ _ F b m => ok_Names F T DMix20
  have DOddDoc22 := dk (gn X G h28 ["_law_cell_here", "_law_names_here"]) fun _ _ F b m => ok_OddDoc F T DMix20
  have DOddText22 := dk (gn X G h29 ["_law_cell_here", "_law_names_here"]) fun _ _ F b m => ok_OddText F T DMix20 DOddDoc22
  have DOddPath24 := dk (gn X G h30 ["_law_cell_here", "_law_names_here"]) fun _ _ F b m => ok_OddPath F T DMix20
  have DReadThing25 : DfD l.prog w K mg base "read_thing" ["word", "text"] 14 (spRTh (fun i => [cNoPart, cNoDeed, cNoRow, cNoFit, cNoPatch, cNoText, cClash].getD i 0)) := DfD.mk' F24 b24 m24 (ok_ReadThing F24 T DRefuseUnless4 DReadDoc4 DReadPath17 mWV hWV mKI hKI)
  have DReadRow25 : DfD l.prog w K mg base "read_row" ["text"] 16 (spRRow (fun i => [cNoPart, cNoDeed, cNoRow, cNoFit, cNoPatch, cNoText, cClash].getD i 0)) := DfD.mk' F23 b23 m23 (ok_ReadRow F23 T DRefuseUnless4 DReadPath17 DReadThing25 mLE hLE)
  have DReadRows25 : DfD l.prog w K mg base "read_rows" ["text"] 18 (spRRows (fun i => [cNoPart, cNoDeed, cNoRow, cNoFit, cNoPatch, cNoText, cClash].getD i 0)) := DfD.mk' F22 b22 m22 (ok_ReadRows F22 T DRefuseUnless4 DReadRow25 N kn I5N I5 henum)
  have DNoText25 := dk (gn X G h32 ["_law_way", "_law_text"]) fun _ _ F b m => ok_NoText F T DReadDoc4 DReadPath17 DReadRows25 N kn
  have DOddRow29 := dk (gn X G h31 ["_law_cell_here", "_law_names_here"]) fun _ _ F b m => ok_OddRow F T DMix20 DOddText22 DOddPath24
  have DRows29 := dk (gn X G h33 ["_law_cell_here", "_law_names_here"]) fun _ _ F b m => ok_Rows F T DMix20 DOddRow29
  exact ok_Law F34 T DShownDoc0 DReadDoc4 DReadPath17 DCell19 DMix20 DNames21 DOddText22 DOddPath24 DNoText25 DRows29
theorem walk {l : PySem.W.OpenLaw} {q : Program} {loose : List Str} {XP : (Str → Option Value) → Heap → Prop} {YP : World → Heap → Prop} {d : DefRec} {K : Params → PySem.W.Frag} (hn : l.most = some 63) (hdf : d.params.defaults = [])
    (hY : ∀ (w : World) (h : Heap), YP w h → (K w.params).In h)
    (F : ∀ (w : World) (mg : Str → Option Value) (fa : Addr) (h : Heap), (K w.params).In h → h.Ns mainGlobals mg → mg d.name = some (.ref fa) →
      ∃ fd : FuncData, (∀ (s : Shared) (u : Value), BindsTo s fd ⟨[u], []⟩ [("_law_script", u)]) ∧ ∀ base : Heap, (K w.params).In base → base.Ns mainGlobals mg → FnOk l.prog w (K w.params) mg base CX0 22 fa fd ["_law_script"] (spLaw (K w.params))) :
    PySem.W.WalkO q loose XP YP l.row.toRowW d [] (fun f vs => PySem.call f vs) :=
  L2.walk_of (n := 63) (k := 22) (x := "_law_script") (CX := fun _ => CX0) (sp := fun w => spLaw (K w.params)) hn (by decide) hdf ⟨rfl, by decide, by decide, rfl⟩ hY F (fun _ _ a ns hl _ hS => ⟨a, ns, rfl, hS, hl, fun _ => rfl⟩) fun _ _ _ _ _ z => z
theorem walkZ {l : PySem.W.OpenLaw} {q : Program} {loose : List Str} {XP : (Str → Option Value) → Heap → Prop} {d : DefRec} {K : Params → PySem.W.Frag} {as : List Addr} {n t : Nat} (e : ∀ P : Params, as = List.map (fun x => x.fst) (K P)) (hn : l.most = some 63) (hdf : d.params.defaults = [])
    (F : ∀ (w : World) (mg : Str → Option Value) (fa : Addr) (h : Heap), (K w.params).In h → h.Ns mainGlobals mg → mg d.name = some (.ref fa) →
      ∃ fd : FuncData, (∀ (s : Shared) (u : Value), BindsTo s fd ⟨[u], []⟩ [("_law_script", u)]) ∧ ∀ base : Heap, (K w.params).In base → base.Ns mainGlobals mg → FnOk l.prog w (K w.params) mg base CX0 22 fa fd ["_law_script"] (spLaw (K w.params))) :
    PySem.W.WalkX q loose XP (PySem.W.X.obsZ as) (PySem.W.X.valZ K n t) l.row.toRowW d [] (fun f vs => PySem.call f vs) :=
  fun w s₀ s₁ mg mb G y a o pm cd doc dV kV h1 h2 h3 h4 h5 h6 args vals as' L p1 p2 p3 p4 p5 =>
    walk (YP := fun w h => (K w.params).In h) hn hdf (fun _ _ z => z) F w s₀ s₁ mg mb G ((show (K w.params).In s₀.heap from (PySem.W.X.z_facts e y).2.1).keeps L.keeps) a o pm cd doc dV kV h1 h2 h3 h4 h5 h6 args vals as' p1 p2 p3 p4 p5
end K92
def PySem.W.Fast.tw2143725347021250234 := 0
def PySem.W.Fast.tw14443220295796885419 := 0
def PySem.W.Fast.tw11767863918701328714 := 0
def PySem.W.Fast.tw7592005622829089786 := 0
def PySem.W.Fast.tw4761898566128339412 := 0
def PySem.W.Fast.tw8960541487963881259 := 0
def PySem.W.Fast.tw9773079933782608677 := 0
def PySem.W.Fast.tw6204694328007565480 := 0
def PySem.W.Fast.tw17741022358192991192 := 0
def PySem.W.Fast.tw14658393992477791782 := 0
def PySem.W.Fast.tw512093365848693160 := 0
def PySem.W.Fast.tw8578965007801140857 := 0
def PySem.W.Fast.tw1793801730260163275 := 0
def PySem.W.Fast.tw3015436657464280375 := 0
def PySem.W.Fast.tw4529045626033102495 := 0
def PySem.W.Fast.tw17472092006287727529 := 0
def PySem.W.Fast.tw8184390849112560263 := 0
def PySem.W.Fast.tw2446311572222609289 := 0
def PySem.W.Fast.tw12525827884481032675 := 0
def PySem.W.Fast.tw8172155401611664949 := 0
def PySem.W.Fast.tw11317634020890895270 := 0
def PySem.W.Fast.tw8397553607599411999 := 0
def PySem.W.Fast.tw13761250294503935553 := 0
def PySem.W.Fast.tw11573490664831224331 := 0
def PySem.W.Fast.tw7999679440671312570 := 0
def PySem.W.Fast.tw3199386848428091427 := 0
def PySem.W.Fast.tw7698825288442528976 := 0
def PySem.W.Fast.tw8137375449397912570 := 0
def PySem.W.Fast.tw9441552992502376494 := 0
def PySem.W.Fast.tw15600748652296392016 := 0
def PySem.W.Fast.tw7739480583629931560 := 0
def PySem.W.Fast.tw18338581381908002518 := 0
def PySem.W.Fast.tw12088275806673147029 := 0
def PySem.W.Fast.tw4772138528164727933 := 0
def PySem.W.Fast.tw16779047893830004254 := 0
def PySem.W.Fast.tw5355367644978076821 := 0
def PySem.W.Fast.tw10138436314409644426 := 0
def PySem.W.Fast.tw11128362832728590373 := 0
def PySem.W.Fast.tw7478426380773017575 := 0
def PySem.W.Fast.tw8839623775798186450 := 0
def PySem.W.Fast.tw15868054373688711449 := 0
def PySem.W.Fast.tw17895277740387499984 := 0
def PySem.W.Fast.tw8767511621770190578 := 0
def PySem.W.Fast.tw12892604280478652524 := 0
def PySem.W.Fast.tw18271677549253231622 := 0
def PySem.W.Fast.tw8174485023501516039 := 0
def PySem.W.Fast.tw7507385459461913224 := 0
def PySem.W.Fast.tw17007516309465275863 := 0
def PySem.W.Fast.tw4183267501820710784 := 0
def PySem.W.Fast.tw7297727608897207793 := 0
def PySem.W.Fast.tw9688401058614808979 := 0
def PySem.W.Fast.tw7631124655391481897 := 0
def PySem.W.Fast.tw13228463303482640910 := 0
def PySem.W.Fast.tw80943316587412553 := 0
def PySem.W.Fast.tw5790658193338255440 := 0
def PySem.W.Fast.tw9934825962263753935 := 0
def PySem.W.Fast.tw9433631461444916349 := 0
def PySem.W.Fast.tw1299642224576134944 := 0
def PySem.W.Fast.tw14938380368494756927 := 0
def PySem.W.Fast.tw1826510491392845391 := 0
def PySem.W.Fast.tw13721291546241489124 := 0
def PySem.W.Fast.tw7611713405367534128 := 0
def PySem.W.Fast.tw15680850595217062273 := 0
def PySem.W.Fast.tw6796744074136415869 := 0
def PySem.W.Fast.tw9349806643603351277 := 0
def PySem.W.Fast.tw13528448376599808506 := 0
def PySem.W.Fast.tw4139704651636843614 := 0
def PySem.W.Fast.tw13414583624479482417 := 0
def PySem.W.Fast.tw14267164601542853642 := 0
def PySem.W.Fast.tw16838023592185676717 := 0
def PySem.W.Fast.tw16129506859992893163 := 0
def PySem.W.Fast.tw2896024670443399969 := 0
def PySem.W.Fast.tw6744647253881327412 := 0
def PySem.W.Fast.tw4624312833665850934 := 0
def PySem.W.Fast.tw15615924146179686510 := 0
def PySem.W.Fast.tw8771241180361324060 := 0
def PySem.W.Fast.tw11158955434122814959 := 0
def PySem.W.Fast.tw10140026572964669193 := 0
def PySem.W.Fast.tw17528256748376343079 := 0
def PySem.W.Fast.tw11086128584063641254 := 0
def PySem.W.Fast.tw10884969380720742195 := 0
def PySem.W.Fast.tw9689718218255180665 := 0
def PySem.W.Fast.tw9096866130600303550 := 0
def PySem.W.Fast.tw13394219036730348013 := 0
def PySem.W.Fast.tw15636515348669080733 := 0
def PySem.W.Fast.tw13059220207568380265 := 0
def PySem.W.Fast.tw10973273111024364311 := 0
def PySem.W.Fast.tw4054518944766674934 := 0
def PySem.W.Fast.tw12303017101422996 := 0
def PySem.W.Fast.tw3559199233140354312 := 0
def PySem.W.Fast.tw4186088221865916184 := 0
def PySem.W.Fast.tw10432037718488064867 := 0
def PySem.W.Fast.tw17221624397292597602 := 0
def PySem.W.Fast.tw10184314436385842897 := 0
def PySem.W.Fast.tw12225025954839615123 := 0
def PySem.W.Fast.tw4958220478138739893 := 0
def PySem.W.Fast.tw1056667798951894274 := 0
def PySem.W.Fast.tw17364499839241204491 := 0
def PySem.W.Fast.tw13067546335025617544 := 0
def PySem.W.Fast.tw14923491138538588696 := 0
def PySem.W.Fast.tw9645008770260887383 := 0
def PySem.W.Fast.tw330308939055585675 := 0
def PySem.W.Fast.tw5260115731405506093 := 0
def PySem.W.Fast.tw51369452440031122 := 0
def PySem.W.Fast.tw2981693163867611669 := 0
def PySem.W.Fast.tw9772902971244605633 := 0
def PySem.W.Fast.tw13933393923796699379 := 0
def PySem.W.Fast.tw2495830499352901362 := 0
def PySem.W.Fast.tw17905908890244388446 := 0
def PySem.W.Fast.tw571342515398834551 := 0
def PySem.W.Fast.tw7789868794283041633 := 0
def PySem.W.Fast.tw2501443632505768235 := 0
def PySem.W.Fast.tw15633236682578584170 := 0
def PySem.W.Fast.tw2154790503303163885 := 0
def PySem.W.Fast.tw18289582007252081308 := 0
def PySem.W.Fast.tw7185895529149855734 := 0
def PySem.W.Fast.tw339969552559425575 := 0
def PySem.W.Fast.tw9003438978519148909 := 0
def PySem.W.Fast.tw8485343275289661062 := 0
def PySem.W.Fast.tw3099427234159078607 := 0
def PySem.W.Fast.tw15046375464655551443 := 0
def PySem.W.Fast.tw7258572530803139820 := 0
def PySem.W.Fast.tw15566200648908268950 := 0
def PySem.W.Fast.tw2828223864896785124 := 0
def PySem.W.Fast.tw9449209367182773845 := 0
def PySem.W.Fast.tw6302835299068838680 := 0
def PySem.W.Fast.tw5434477240797048290 := 0
def PySem.W.Fast.tw13693700366020238433 := 0
def PySem.W.Fast.tw10725150024544752633 := 0
def PySem.W.Fast.tw18424934506164652521 := 0
def PySem.W.Fast.tw12040038189943507933 := 0
def PySem.W.Fast.tw7510766622751021815 := 0
def PySem.W.Fast.tw1479342281882490522 := 0
def PySem.W.Fast.tw12518225593014266022 := 0
def PySem.W.Fast.tw3420225011255716132 := 0
def PySem.W.Fast.tw16009512216270659457 := 0
def PySem.W.Fast.tw14114067373579407360 := 0
def PySem.W.Fast.tw1364422582344056130 := 0
def PySem.W.Fast.tw12385631823917332838 := 0
def PySem.W.Fast.tw12935685763391772665 := 0
def PySem.W.Fast.tw4753361564564963855 := 0
def PySem.W.Fast.tw17904393035744150676 := 0
def PySem.W.Fast.tw15760954548675948086 := 0
def PySem.W.Fast.tw12290961103219760988 := 0
def PySem.W.Fast.tw6576751261986665141 := 0
def PySem.W.Fast.tw5545266245189687861 := 0
def PySem.W.Fast.tw15815053504463432070 := 0
def PySem.W.Fast.tw13071747730569840985 := 0
def PySem.W.Fast.tw13194468745790468391 := 0
def PySem.W.Fast.tw10912681083777855717 := 0
def PySem.W.Fast.tw16455770909018702065 := 0
def PySem.W.Fast.tw7752912324378114952 := 0
def PySem.W.Fast.tw1319414028455421822 := 0
def PySem.W.Fast.tw12808046220641983998 := 0
def PySem.W.Fast.tw1084378643388172741 := 0
def PySem.W.Fast.tw11613813043455320865 := 0
def PySem.W.Fast.tw18345099390695468037 := 0
def PySem.W.Fast.tw485600926395498449 := 0
def PySem.W.Fast.tw18434063118708293769 := 0
def PySem.W.Fast.tw17057562502774543689 := 0
def PySem.W.Fast.tw1302070001919260109 := 0
def PySem.W.Fast.tw6349716780924602174 := 0
def PySem.W.Fast.tw9543683895159996407 := 0
def PySem.W.Fast.tw2653874994954812471 := 0
def PySem.W.Fast.tw5766391264046713374 := 0
def PySem.W.Fast.tw13821738684406515441 := 0
def PySem.W.Fast.tw10680935924824370005 := 0
def PySem.W.Fast.tw17571323075032467137 := 0
def PySem.W.Fast.tw6252665829590753331 := 0
def PySem.W.Fast.tw1876353620514587887 := 0
def PySem.W.Fast.tw15300987590742615965 := 0
def PySem.W.Fast.tw12124557882692278293 := 0
def PySem.W.Fast.tw14516798075946844930 := 0
def PySem.W.Fast.tw5667251051540276515 := 0
def PySem.W.Fast.tw5586125061241527990 := 0
def PySem.W.Fast.tw1718460574607758794 := 0
def PySem.W.Fast.tw11599475115048857610 := 0
def PySem.W.Fast.tw16799620442458115019 := 0
def PySem.W.Fast.tw16060319832392632023 := 0
def PySem.W.Fast.tw8734115203710929575 := 0
def PySem.W.Fast.tw4098939475012307355 := 0
def PySem.W.Fast.tw17870121401670329054 := 0
def PySem.W.Fast.tw1220674587290336078 := 0
def PySem.W.Fast.tw12585267165062643484 := 0
def PySem.W.Fast.tw8123014891888947289 := 0
def PySem.W.Fast.tw16974071277709137566 := 0
def PySem.W.Fast.tw12095640064951351929 := 0
def PySem.W.Fast.tw11456744539181610647 := 0
def PySem.W.Fast.tw3553497877291209558 := 0
def PySem.W.Fast.tw10669216832398229366 := 0
def PySem.W.Fast.tw6542415258743456871 := 0
def PySem.W.Fast.tw3072816137908035754 := 0
def PySem.W.Fast.tw12647658605631288626 := 0
def PySem.W.Fast.tw11425579545423998827 := 0
def PySem.W.Fast.tw16062443102562162525 := 0
def PySem.W.Fast.tw3620674309433669432 := 0
def PySem.W.Fast.tw4472229569806443441 := 0
def PySem.W.Fast.tw16537526856580893144 := 0
def PySem.W.Fast.tw10969413061978638091 := 0
def PySem.W.Fast.tw17266119850687394472 := 0
def PySem.W.Fast.tw9905087037110171848 := 0
def PySem.W.Fast.tw6301987908324806778 := 0
def PySem.W.Fast.tw14792470764823431362 := 0
def PySem.W.Fast.tw16065827851625746139 := 0
def PySem.W.Fast.tw15807555507683600729 := 0
def PySem.W.Fast.tw9754453761733035929 := 0
def PySem.W.Fast.tw7982252818013524374 := 0
def PySem.W.Fast.tw6160007108371384925 := 0
def PySem.W.Fast.tw3752520321395251865 := 0
def PySem.W.Fast.tw3238877940102345277 := 0
def PySem.W.Fast.tw2307944152337104058 := 0
def PySem.W.Fast.tw15290926074336659911 := 0
def PySem.W.Fast.tw14298183255045482637 := 0
def PySem.W.Fast.tw12842021373162385710 := 0
def PySem.W.Fast.tw11246980611809799065 := 0
def PySem.W.Fast.tw10749815455824411328 := 0
def PySem.W.Fast.tw10558979324259857092 := 0
def PySem.W.Fast.tw6327273203328697321 := 0
def PySem.W.Fast.tw5102480309971814901 := 0
def PySem.W.Fast.tw3535436776367669153 := 0
def PySem.W.Fast.tw3502089243556505352 := 0
def PySem.W.Fast.tw2933214973153734274 := 0
def PySem.W.Fast.tw1813354725673279274 := 0
def PySem.W.Fast.tw17940862063844360242 := 0
def PySem.W.Fast.tw17894055177387946515 := 0
def PySem.W.Fast.tw17551959985960363022 := 0
def PySem.W.Fast.tw15963301407684224674 := 0
def PySem.W.Fast.tw15225577474606657875 := 0
def PySem.W.Fast.tw14651663741415274278 := 0
def PySem.W.Fast.tw14587388497546131471 := 0
def PySem.W.Fast.tw13746050596748961731 := 0
def PySem.W.Fast.tw13714356690992140737 := 0
def PySem.W.Fast.tw12382721400724509355 := 0
def PySem.W.Fast.tw10501910798809961062 := 0
def PySem.W.Fast.tw10125896629428954024 := 0
def PySem.W.Fast.tw5569550614335109144 := 0
def PySem.W.Fast.tw16781777565981424458 := 0
def PySem.W.Fast.tw17932857485094235369 := 0
def PySem.W.Fast.tw14280595623255890834 := 0
def PySem.W.Fast.tw17202664016212798536 := 0
def PySem.W.Fast.tw7515740310082314146 := 0
def PySem.W.Fast.tw18005898196953030317 := 0
def PySem.W.Fast.tw6807041307144355596 := 0
def PySem.W.Fast.tw17382186143695834014 := 0
def PySem.W.Fast.tw16650932679133253142 := 0
def PySem.W.Fast.tw1415239960396354406 := 0
def PySem.W.Fast.tw2054772377278703924 := 0
def PySem.W.Fast.tw9681420791609838835 := 0
def PySem.W.Fast.tw6077552863158796034 := 0
def PySem.W.Fast.tw2376370816713618031 := 0
def PySem.W.Fast.tw15113150816184966708 := 0
def PySem.W.Fast.tw1472073556500958354 := 0
def PySem.W.Fast.tw10996772558006031377 := 0
def PySem.W.Fast.tw13056042919778748214 := 0
def PySem.W.Fast.tw4682547286105509927 := 0
def PySem.W.Fast.tw1238731978116301811 := 0
def PySem.W.Fast.tw17894045686551075092 := 0
def PySem.W.Fast.tw11454243372312857792 := 0
def PySem.W.Fast.tw9422509051664095420 := 0
def PySem.W.Fast.tw927918294018433820 := 0
def PySem.W.Fast.tw5275972985947566784 := 0
def PySem.W.Fast.tw5004073283486748444 := 0
def PySem.W.Fast.tw4782696019648679314 := 0
def PySem.W.Fast.tw4555520022512387254 := 0
def PySem.W.Fast.tw4465186551083364270 := 0
def PySem.W.Fast.tw3198677161658682712 := 0
def PySem.W.Fast.tw2957220153937002672 := 0
def PySem.W.Fast.tw16285311944296111846 := 0
def PySem.W.Fast.tw14974817956396866141 := 0
def PySem.W.Fast.tw10165012886586399991 := 0
def PySem.W.Fast.tw3440938089802922204 := 0
def PySem.W.Fast.tw1317087502069049733 := 0
def PySem.W.Fast.tw16872193127515323728 := 0
def PySem.W.Fast.tw7658792184292794945 := 0
def PySem.W.Fast.tw5696445453048540410 := 0
def PySem.W.Fast.tw456354030619936660 := 0
def PySem.W.Fast.tw17019294464026984201 := 0
def PySem.W.Fast.tw16693064992726139388 := 0
def PySem.W.Fast.tw16110103950893952471 := 0
def PySem.W.Fast.tw15602784044104892071 := 0
def PySem.W.Fast.tw7543438136477836474 := 0
def PySem.W.Fast.tw17699830751854226758 := 0
def PySem.W.Fast.tw17699702934969657537 := 0
def PySem.W.Fast.tw14799807103877508386 := 0
def PySem.W.Fast.tw10646594224526887772 := 0
def PySem.W.Fast.tw2495402785062615156 := 0
def PySem.W.Fast.tw15311256199354579383 := 0
def PySem.W.Fast.tw1199077966419032944 := 0
def PySem.W.Fast.tw9875831960202287745 := 0
def PySem.W.Fast.tw3110979549097251662 := 0
def PySem.W.Fast.tw14703257486679872896 := 0
def PySem.W.Fast.tw12088021923322745905 := 0
def PySem.W.Fast.tw11955618676231165323 := 0
def PySem.W.Fast.tw11010840771472668627 := 0
def PySem.W.Fast.tw10608708356325414729 := 0
def PySem.W.Fast.tw7993004714287116606 := 0
def PySem.W.Fast.tw17040474682049138396 := 0
def PySem.W.Fast.tw13447107180566147395 := 0
def PySem.W.Fast.tw9990613514330779983 := 0
def PySem.W.Fast.tw9805275862078179152 := 0
def PySem.W.Fast.tw9666291715768182287 := 0
def PySem.W.Fast.tw9615569904848444751 := 0
def PySem.W.Fast.tw9437052002472928613 := 0
def PySem.W.Fast.tw9385117025941727426 := 0
def PySem.W.Fast.tw9357875654323358871 := 0
def PySem.W.Fast.tw9353733967531266583 := 0
def PySem.W.Fast.tw9227765314039312579 := 0
def PySem.W.Fast.tw9208500351139363758 := 0
def PySem.W.Fast.tw9115458341704461896 := 0
def PySem.W.Fast.tw8959043752236743369 := 0
def PySem.W.Fast.tw8945317836418770154 := 0
def PySem.W.Fast.tw8862856271400322130 := 0
def PySem.W.Fast.tw8394539088291288619 := 0
def PySem.W.Fast.tw833850611452313985 := 0
def PySem.W.Fast.tw8329903045718662575 := 0
def PySem.W.Fast.tw8107455516959911045 := 0
def PySem.W.Fast.tw7965729210819419156 := 0
def PySem.W.Fast.tw7696138376911370973 := 0
def PySem.W.Fast.tw7549738681539610570 := 0
def PySem.W.Fast.tw7279013433307975967 := 0
def PySem.W.Fast.tw6889697001519597867 := 0
def PySem.W.Fast.tw6803994785934616589 := 0
def PySem.W.Fast.tw6430759278188730105 := 0
def PySem.W.Fast.tw6264817563782331655 := 0
def PySem.W.Fast.tw610661051764743190 := 0
def PySem.W.Fast.tw5735572923085724238 := 0
def PySem.W.Fast.tw5723078438833533676 := 0
def PySem.W.Fast.tw5693047407376434699 := 0
def PySem.W.Fast.tw5606938229199871841 := 0
def PySem.W.Fast.tw53712326790396162 := 0
def PySem.W.Fast.tw5360519949532120663 := 0
def PySem.W.Fast.tw5234917309227021197 := 0
def PySem.W.Fast.tw5195937796668276458 := 0
def PySem.W.Fast.tw4917914883382341921 := 0
def PySem.W.Fast.tw4875860575056769424 := 0
def PySem.W.Fast.tw4629242216576516822 := 0
def PySem.W.Fast.tw460558757545111488 := 0
def PySem.W.Fast.tw4556679601891418853 := 0
def PySem.W.Fast.tw4539086676558571552 := 0
def PySem.W.Fast.tw444543849278065752 := 0
def PySem.W.Fast.tw4437546862338812528 := 0
def PySem.W.Fast.tw4375682275561050623 := 0
def PySem.W.Fast.tw4006050817304721301 := 0
def PySem.W.Fast.tw3901626595832332795 := 0
def PySem.W.Fast.tw3842070641955583128 := 0
def PySem.W.Fast.tw3363495076054373793 := 0
def PySem.W.Fast.tw3200091447404233084 := 0
def PySem.W.Fast.tw3195641147553614478 := 0
def PySem.W.Fast.tw2892758792923251489 := 0
def PySem.W.Fast.tw2695448414986532313 := 0
def PySem.W.Fast.tw2514118284711638701 := 0
def PySem.W.Fast.tw2469294727365047021 := 0
def PySem.W.Fast.tw2121400251586455700 := 0
def PySem.W.Fast.tw2113764744877644434 := 0
def PySem.W.Fast.tw2019270006356728085 := 0
def PySem.W.Fast.tw18068975666190108048 := 0
def PySem.W.Fast.tw18003480686534876192 := 0
def PySem.W.Fast.tw17710506848665819706 := 0
def PySem.W.Fast.tw17516413622945438376 := 0
def PySem.W.Fast.tw17180235312458229384 := 0
def PySem.W.Fast.tw17089907411778659064 := 0
def PySem.W.Fast.tw16976993711642477186 := 0
def PySem.W.Fast.tw16821304945888564983 := 0
def PySem.W.Fast.tw16590215100578415419 := 0
def PySem.W.Fast.tw16464159645628154071 := 0
def PySem.W.Fast.tw16436618876592014298 := 0
def PySem.W.Fast.tw16252932902931742526 := 0
def PySem.W.Fast.tw1623121943333965118 := 0
def PySem.W.Fast.tw16166214189387491170 := 0
def PySem.W.Fast.tw16158271264522957631 := 0
def PySem.W.Fast.tw1590138572006294780 := 0
def PySem.W.Fast.tw15511695408076491916 := 0
def PySem.W.Fast.tw15388636714680042841 := 0
def PySem.W.Fast.tw15188640670616151924 := 0
def PySem.W.Fast.tw14796922793280982396 := 0
def PySem.W.Fast.tw14727778300607614671 := 0
def PySem.W.Fast.tw14575913820201665117 := 0
def PySem.W.Fast.tw14348806372208776716 := 0
def PySem.W.Fast.tw14184824593084964003 := 0
def PySem.W.Fast.tw14147264676878825683 := 0
def PySem.W.Fast.tw13902995173934229141 := 0
def PySem.W.Fast.tw13541287951326723192 := 0
def PySem.W.Fast.tw13516786463996064685 := 0
def PySem.W.Fast.tw13460390073663447211 := 0
def PySem.W.Fast.tw13110169987390419629 := 0
def PySem.W.Fast.tw12948626808676371062 := 0
def PySem.W.Fast.tw12695565536563732676 := 0
def PySem.W.Fast.tw12687474477104722024 := 0
def PySem.W.Fast.tw12540741279128586860 := 0
def PySem.W.Fast.tw12509087937618856520 := 0
def PySem.W.Fast.tw12434569888820307337 := 0
def PySem.W.Fast.tw11991559295257025091 := 0
def PySem.W.Fast.tw11876373386590187816 := 0
def PySem.W.Fast.tw11517604226828894779 := 0
def PySem.W.Fast.tw1141584977126607014 := 0
def PySem.W.Fast.tw11391925465967938964 := 0
def PySem.W.Fast.tw11335017959874989450 := 0
def PySem.W.Fast.tw1114532687511838478 := 0
def PySem.W.Fast.tw10767132932409012395 := 0
def PySem.W.Fast.tw10740579659588924468 := 0
def PySem.W.Fast.tw10699584443873294168 := 0
open PySem PySem.W PyProof.Rows
set_option maxRecDepth 100000 in
set_option maxHeartbeats 0 in
theorem PySem.Challenge.cw_patchbough_k92_no_texts_holds : PySem.Challenge.rw_patchbough_k92_no_texts.Holds := by
  w_on; o_law; z_head; (case hw => w_witness2)
  k_fill
  refine K92.walkZ (l := PySem.Challenge.rw_patchbough_k92_no_texts) (fun _ => rfl) rfl rfl ?F
  case F =>
    intro w mg fa h KX G hmg
    refine' K92.all_mk KX G hmg (L2.fa ?a1 ?l1 ?c1 ?k1) (L2.fa ?a2 ?l2 ?c2 ?k2) (L2.fa ?a3 ?l3 ?c3 ?k3) (L2.fa ?a4 ?l4 ?c4 ?k4) (L2.fa ?a5 ?l5 ?c5 ?k5) (L2.fa ?a6 ?l6 ?c6 ?k6) (L2.fa ?a7 ?l7 ?c7 ?k7) (L2.fa ?a8 ?l8 ?c8 ?k8) (L2.fa ?a9 ?l9 ?c9 ?k9) (L2.fa ?a10 ?l10 ?c10 ?k10) (L2.fa ?a11 ?l11 ?c11 ?k11) (L2.fa ?a12 ?l12 ?c12 ?k12) (L2.fa ?a13 ?l13 ?c13 ?k13) (L2.fa ?a14 ?l14 ?c14 ?k14) (L2.fa ?a15 ?l15 ?c15 ?k15) (L2.fa ?a16 ?l16 ?c16 ?k16) (L2.fa ?a17 ?l17 ?c17 ?k17) (L2.fa ?a18 ?l18 ?c18 ?k18) (L2.fa ?a19 ?l19 ?c19 ?k19) (L2.fa ?a20 ?l20 ?c20 ?k20) (L2.fa ?a21 ?l21 ?c21 ?k21) (L2.fa ?a22 ?l22 ?c22 ?k22) (L2.fa ?a23 ?l23 ?c23 ?k23) (L2.fa ?a24 ?l24 ?c24 ?k24) (L2.fa ?a25 ?l25 ?c25 ?k25) (L2.fa ?a26 ?l26 ?c26 ?k26) (L2.fa ?a27 ?l27 ?c27 ?k27) (L2.fa ?a28 ?l28 ?c28 ?k28) (L2.fa ?a29 ?l29 ?c29 ?k29) (L2.fa ?a30 ?l30 ?c30 ?k30) (L2.fa ?a31 ?l31 ?c31 ?k31) (L2.fa ?a32 ?l32 ?c32 ?k32) (L2.fa ?a33 ?l33 ?c33 ?k33) ?a34 ?l34 ?c34 ?k34 (K92.nz ?z1) (K92.nz ?z2) (K92.nz ?z3) (K92.nz ?z4) (K92.nz ?z5) (K92.nz ?z6) (K92.nz ?z7) (K92.nz ?z8) (K92.nz ?z9) (K92.nz ?z10) (K92.nz ?z11) (K92.nz ?z12) (K92.nz ?z13) (K92.nz ?z14) (K92.nz ?z15) (K92.nz ?z16) (K92.nz ?z17) ?e1 ?e2 ?e3 ?e4 ?e5 ?e6 ?xaBoughError ?xaNoPart ?xaNoDeed ?xaNoRow ?xaNoFit ?xaNoPatch ?xaNoText ?xaClash ?iaNoText ?ilNoText ?icNoText ?ikNoText ?iaNoRow ?iaNoFit ?iaNoPatch ?iaClash ?kk ?eLE ?lLE ?nLE ?xLE ?dLE ?eWV ?hWV ?eKI ?hKI (K92.nz ?zE) ?xaReader ?xfRI ?xlRI ?xcRI ?xkRI ?xfRE ?xlRE ?xcRE ?xkRE ?xfRP ?xlRP ?xcRP ?xkRP ?xfRR ?xlRR ?xcRR ?xkRR ?xdReader
    (case a1 | l1 | c1 | k1 | a2 | l2 | c2 | k2 | a3 | l3 | c3 | k3 | a4 | l4 | c4 | k4 | a5 | l5 | c5 | k5 | a6 | l6 | c6 | k6 | a7 | l7 | c7 | k7 | a8 | l8 | c8 | k8 | a9 | l9 | c9 | k9 | a10 | l10 | c10 | k10 | a11 | l11 | c11 | k11 | a12 | l12 | c12 | k12 | a13 | l13 | c13 | k13 | a14 | l14 | c14 | k14 | a15 | l15 | c15 | k15 | a16 | l16 | c16 | k16 | a17 | l17 | c17 | k17 | a18 | l18 | c18 | k18 | a19 | l19 | c19 | k19 | a20 | l20 | c20 | k20 | a21 | l21 | c21 | k21 | a22 | l22 | c22 | k22 | a23 | l23 | c23 | k23 | a24 | l24 | c24 | k24 | a25 | l25 | c25 | k25 | a26 | l26 | c26 | k26 | a27 | l27 | c27 | k27 | a28 | l28 | c28 | k28 | a29 | l29 | c29 | k29 | a30 | l30 | c30 | k30 | a31 | l31 | c31 | k31 | a32 | l32 | c32 | k32 | a33 | l33 | c33 | k33 | a34 | l34 | c34 | k34 | z1 | z2 | z3 | z4 | z5 | z6 | z7 | z8 | z9 | z10 | z11 | z12 | z13 | z14 | z15 | z16 | z17 | e1 | e2 | e3 | e4 | e5 | e6 | xaBoughError | xaNoPart | xaNoDeed | xaNoRow | xaNoFit | xaNoPatch | xaNoText | xaClash | iaNoText | ilNoText | icNoText | ikNoText | iaNoRow | iaNoFit | iaNoPatch | iaClash => k_is)
    (case kk => kernel_rfl)
    (case eLE => k_is)
    (case lLE => k_is)
    (case nLE => exact rfl)
    (case xLE => exact ⟨rfl, rfl, rfl⟩)
    (case dLE => exact rfl)
    (case eWV => k_is)
    (case hWV => kernel_rfl)
    (case eKI => k_is)
    (case hKI => kernel_rfl)
    (case zE => k_is)
    (case xaReader => k_is)
    (case xfRI => k_is)
    (case xlRI => k_is)
    (case xcRI => k_is)
    (case xkRI => k_is)
    (case xfRE => k_is)
    (case xlRE => k_is)
    (case xcRE => k_is)
    (case xkRE => k_is)
    (case xfRP => k_is)
    (case xlRP => k_is)
    (case xcRP => k_is)
    (case xkRP => k_is)
    (case xfRR => k_is)
    (case xlRR => k_is)
    (case xcRR => k_is)
    (case xkRR => k_is)
    (case xdReader => kernel_rfl)
#print axioms PySem.Challenge.cw_patchbough_k92_no_texts_holds

