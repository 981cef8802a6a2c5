import PyProof.Rows.All
import Wide.All
import OpenK.AllK
import Wide.FinOn
import Lean
import PyProof.EqAt
import PyProof.EqKinds
import PyProof.TupleCall
import PyProof.ReprRoads
import PyProof.ReprBulk
import PyProof.ZipIter
import PyProof.P3Eq
import PyProof.Rows.Range3
import PyProof.Rows.SetFrom
import PySem.Challenge.RW_patchbough_k42_good_form
set_option Elab.async false
set_option linter.all false
set_option maxRecDepth 100000
set_option maxHeartbeats 40000000
theorem ACd {α:Type _} {l:List α} {i:Nat} (h:i<l.length):l[i]?=some l[i]:=List.getElem?_eq_getElem h
theorem ACe {α:Type _} {l:List α} {i:Nat} {a:α} (h:l[i]?=some a):∃h:i<l.length,l[i]=a:=List.getElem?_eq_some_iff.mp h
theorem ACf {α:Type _} {a b:α} (h:some a=some b):a=b:=Option.some.inj h
theorem ACg {α:Type _} {l:List α} {i:Nat} {a:α} (h:l[i]?=some a):a∈l:=List.mem_of_getElem? h
abbrev ACh:=PySem.W.Frag
namespace L2
open PySem PySem.Spec PyProof.Rows
abbrev Key:=Sum Int Str
def JZ:Key->Value->Bool
 | .inl k,v=>Value.isInt k v
 | .inr x,v=>Value.isStrOf x v
def kH (w:World):Key->Int
 | .inl k=>hashInt k
 | .inr x=>hashStr w x
theorem Bd:∀{k:Key} {v:Value},JZ k v=true->(∃i t,k=Sum.inl i/\v=Value.int i t)∨(∃x t,k=Sum.inr x/\v=Value.str x t)
 | .inl i,v,h=>by
  obtain⟨t,e⟩:=Value.isInt_shape (k:=i) (v:=v) h
  exact .inl ⟨i,t,rfl,e⟩
 | .inr x,v,h=>by
  obtain⟨t,e⟩:=Value.isStrOf_shape (x:=x) (v:=v) h
  exact .inr ⟨x,t,rfl,e⟩
theorem TC (i:Int) (t:Tok):JZ (.inl i) (.int i t)=true:=by simp[JZ,Value.isInt]
theorem TF (x:Str) (t:Tok):JZ (.inr x) (.str x t)=true:=by simp[JZ,Value.isStrOf]
theorem ah (a b:Int):decide ((Sum.inl a:Key)=Sum.inl b)=(a==b):=by
 by_cases e:a=b
 ·subst e;simp
 ·have h:¬(Sum.inl a:Key)=Sum.inl b:=fun q=>e (Sum.inl.inj q)
  rw[decide_eq_false h]
  exact(beq_eq_false_iff_ne.mpr e).symm
theorem ai (a b:Str):decide ((Sum.inr a:Key)=Sum.inr b)=decide (a=b):=by
 by_cases e:a=b
 ·subst e;simp
 ·have h:¬(Sum.inr a:Key)=Sum.inr b:=fun q=>e (Sum.inr.inj q)
  rw[decide_eq_false h,decide_eq_false e]
theorem aj (a:Int) (b:Str):decide ((Sum.inl a:Key)=Sum.inr b)=false:=decide_eq_false (fun q=>nomatch q)
theorem ao (a:Str) (b:Int):decide ((Sum.inr a:Key)=Sum.inl b)=false:=decide_eq_false (fun q=>nomatch q)
def Am (prog:Program) (w:World):PySem.KeyKind prog w Key where
 is:=JZ
 hash:=kH w
 inj:=fun v a b ha hb=>by
  rcases Bd ha with⟨i,t,rfl,rfl⟩|⟨x,t,rfl,rfl⟩
  ·rcases Bd hb with⟨j,u,rfl,e⟩|⟨y,u,rfl,e⟩
   ·injection e with e1 _;rw[e1]
   ·exact nomatch e
  ·rcases Bd hb with⟨j,u,rfl,e⟩|⟨y,u,rfl,e⟩
   ·exact nomatch e
   ·injection e with e1 _;rw[e1]
 byValue:=fun k v h=>by
  rcases Bd h with⟨i,t,rfl,rfl⟩|⟨x,t,rfl,rfl⟩<;>rfl
 pyHash:=fun hv h=>by
  rcases Bd hv with⟨i,t,rfl,rfl⟩|⟨x,t,rfl,rfl⟩
  ·exact wpAny_pyHash_int h
  ·exact wpAny_pyHash_str h
 eqBool:=fun hu hv h=>by
  rcases Bd hu with⟨i,t,rfl,rfl⟩|⟨x,t,rfl,rfl⟩
  ·rcases Bd hv with⟨j,u,rfl,rfl⟩|⟨y,u,rfl,rfl⟩
   ·rw[ah]at h;exact wpAny_eqBool_int h
   ·rw[aj]at h;exact SeqAt.EqAt.int_str i t y u _ _ _ _ h
  ·rcases Bd hv with⟨j,u,rfl,rfl⟩|⟨y,u,rfl,rfl⟩
   ·rw[ao]at h;exact SeqAt.EqAt.str_int x t j u _ _ _ _ h
   ·rw[ai]at h;exact wpAny_eqBool_str h
 «strs»:=fun k x t v h=>by
  rcases Bd h with⟨i,u,rfl,e⟩|⟨y,u,rfl,e⟩
  ·exact nomatch e
  ·injection e with e1 _
   subst e1
   cases v<;>rfl
theorem Np (prog:Program) (w:World) (i:Int) (t:Tok):(Am prog w).is (.inl i) (.int i t)=true:=TC i t
theorem Nq (prog:Program) (w:World) (x:Str) (t:Tok):(Am prog w).is (.inr x) (.str x t)=true:=TF x t
inductive V where
 |BV|bl (b:Bool)|int (i:Int)|str (x:Str)|Nr (b:Array UInt8)|de (b:UInt64)|ref (a:Addr)|ty (n:String)
 deriving DecidableEq
def RelV:V->Value->Prop
 | .BV,u=>u=Value.none
 | .bl b,u=>u=Value.bool b
 | .int i,u=>∃t,u=Value.int i t
 | .str x,u=>∃t,u=Value.str x t
 | .Nr b,u=>∃t,u=Value.bytes b t
 | .de b,u=>∃t,u=Value.float b t
 | .ref a,u=>u=Value.ref a
 | .ty n,u=>u=Value.type n
abbrev Vals:List V->List Value->Prop:=Paired RelV
theorem Vals.length {xs:List V} {us:List Value} (r:Vals xs us):xs.length=us.length:=Paired.length r
theorem Vals.inv {x:V} {xs:List V} {us:List Value} (r:Vals (x::xs) us):∃u c,us=u::c/\RelV x u/\Vals xs c:=by
 cases r with
 |cons a b=>exact⟨_,_,rfl,a,b⟩
theorem Vals.get {xs:List V} {us:List Value} {i:Nat} {x:V} (r:Vals xs us) (e:xs[i]?=some x):∃u,us[i]?=some u/\RelV x u:=by
 induction r generalizing i with
 |nil=>rw[List.getElem?_nil]at e;exact nomatch e
 |cons a b c=>
  cases i with
  |zero=>exact⟨_,rfl,ACf e▸a⟩
  |succ j=>exact c (i:=j) e
theorem Vals.set {x:V} {u:Value} (r:RelV x u):∀{xs:List V} {us:List Value} (i:Nat),Vals xs us->Vals (xs.set i x) (us.set i u)
 |_,_,_,.nil=>.nil
 |_,_,0,.cons _ t=>.cons r t
 |_,_,i+1,.cons q t=>.cons q (Vals.set r i t)
theorem Vals.append {xs ys:List V} {us ws:List Value} (r:Vals xs us) (s:Vals ys ws):Vals (xs++ys) (us++ws):=by
 induction r with
 |nil=>exact s
 |cons a _ b=>exact .cons a b
theorem Vals.take:∀{xs:List V} {us:List Value} (n:Nat),Vals xs us->Vals (xs.take n) (us.take n)
 |_,_,0,_=>.nil
 |_,_,_+1,.nil=>.nil
 |_,_,n+1,.cons r t=>.cons r (Vals.take n t)
theorem Vals.drop:∀{xs:List V} {us:List Value} (n:Nat),Vals xs us->Vals (xs.drop n) (us.drop n)
 |_,_,0,r=>r
 |_,_,_+1,.nil=>.nil
 |_,_,n+1,.cons _ t=>Vals.drop n t
def Iv:Option V->Option Value->Prop
 |some v,some u=>RelV v u
 |none,none=>True
 |_,_=>False
def KV {a:Type}:List (a×V)->List (a×Value)->Prop:=Paired fun(p:a×V) (q:a×Value)=>p.1=q.1/\RelV p.2 q.2
def kV:Key->V
 | .inl i=>.int i
 | .inr x=>.str x
inductive HO where
 |lst (xs:List V)
 |tup (xs:List V)
 |dK (kvs:List (Key×V))|dT (kvs:List (List Key×V))
 |set (S:Int->Bool) (n:Nat)
 |ins (C a:Addr) (fs:List (Str×V))
 |own (x:Addr)
 |xd (fs:List (Str×V))
 |met (f x:Addr)
 |Ze (lo b:Int)
 |CZ (o:Obj) (u:HO)
 |aq (ps:Array Value)
 |ext (c:Heap->Prop)
abbrev Hp:=Addr->Option HO
def upd (H:Hp) (a:Addr) (o:HO):Hp:=fun b=>if b=a then some o else H b
theorem AE {H:Hp} {a:Addr} {o:HO}:upd H a o a=some o:=by unfold upd;rw[if_pos rfl]
theorem AJ {H:Hp} {a b:Addr} {o:HO} (h:b≠a):upd H a o b=H b:=by unfold upd;rw[if_neg h]
theorem Xq {H:Hp} {a:Addr} {o u:HO}:upd (upd H a o) a u=upd H a u:=by
 funext b;unfold upd;split<;>rfl
theorem eT {H:Hp} {a b:Addr} {o u:HO} (h:H a=some o) (h':H b=some u) (d:o≠u):a≠b:=by
 intro e;subst e;rw[h]at h';exact d (ACf h')
theorem Ab {H:Hp} {a b:Addr} {o:HO} (h:H a=some o) (h':H b=none):a≠b:=by
 intro e;subst e;rw[h]at h';cases h'
section
variable(P:Program) (w:World)
def Ay (H:Hp) (h:Heap) (a:Addr):HO->Prop
 | .lst xs=>xs.length<=sizeLine/\∃(its:List Value) (n:Nat),Vals xs its/\h.get? a=some {cls:=.type "list",data:=.seq its.toArray n}
 | .tup xs=>xs.length<=sizeLine/\∃its:List Value,Vals xs its/\IsTup h a its.toArray
 | .dK kvs=>kvs.length<=sizeLine/\(a==sysModules)=false/\∃e,KV kvs e/\h.DictOf (Am P w) a e
 | .dT kvs=>kvs.length<=sizeLine/\(a==sysModules)=false/\∃xs:List (List Key×Addr×Value),
   Paired (fun(p:List Key×V) (q:List Key×Addr×Value)=>p.1=q.1/\H q.2.1=some (.tup (p.1.map kV))/\RelV p.2 q.2.2) kvs xs/\
   ∃o g k,h.get? a=some o/\o.ExactDict/\o.data=.dict g k/\g.toList=xs.map (entryOfKey (tupleKind (Am P w)))/\(xs.map (·.1)).Nodup
 | .set S n=>h.SetOf (intKind P w) a S n
 | .ins C c fs=>H c=some (.own a)/\fs.length<=1000/\c≠a/\h.get? a=some (PySem.W.instObj C c)/\
   ∃b,h.Ns1 c b/\(∀f,Iv (fs.lookup f) (b f))/\PySem.Within b (fs.map (·.1))
 | .own _=>∃o,h.get? a=some o
 | .xd fs=>∃b,h.Ns1 a b/\∀f,Iv (fs.lookup f) (b f)
 | .Ze lo l=>∃t u v,h.get? a=some {cls:=.type "range",data:=.fields #[.int lo t,.int l u,.int 1 v]}
 | .CZ o u=>h.get? a=some o/\Ay H h a u
 | .aq m=>h.get? a=some {cls:=.none,data:=.fields m}
 | .met f x=>h.get? a=some (PySem.W.methodObj (.ref f) (.ref x))
 | .ext d=>d h/\(∃o,h.get? a=some o)/\∀i j:Heap,d i->(∀o,i.get? a=some o->j.get? a=some o)->d j
def GQ (H:Hp) (h:Heap):Prop:=∀a o,H a=some o->Ay P w H h a o
end
section
variable{P:Program} {w:World} {H H':Hp} {h h':Heap} {a:Addr} {o:HO}
theorem Ay.lt (x:Ay P w H h a o):a<h.objs.size:=by
 cases o with
 |lst b=>obtain⟨_,_,_,_,e⟩:=x;exact Heap.lt_size e
 |tup b=>obtain⟨_,_,_,p⟩:=x;exact p.lt
 |dK kvs=>obtain⟨_,_,_,_,o,_,_,e,_⟩:=x;exact Heap.lt_size e
 |dT kvs=>obtain⟨_,_,_,_,o,_,_,e,_⟩:=x;exact Heap.lt_size e
 |set S n=>obtain⟨o,_,_,_,e,_⟩:=x;exact Heap.lt_size e
 |ins C c fs=>obtain⟨_,_,_,e,_⟩:=x;exact Heap.lt_size e
 |own y=>obtain⟨_,e⟩:=x;exact Heap.lt_size e
 |xd fs=>obtain⟨_,⟨_,_,_,e,_⟩,_⟩:=x;exact Heap.lt_size e
 |Ze lo d=>obtain⟨_,_,_,e⟩:=x;exact Heap.lt_size e
 |CZ g u=>obtain⟨e,_⟩:=x;exact Heap.lt_size e
 |aq i=>exact Heap.lt_size (show h.get? a=some _ from x)
 |met f y=>exact Heap.lt_size (show h.get? a=some _ from x)
 |ext j=>obtain⟨_,⟨_,e⟩,_⟩:=x;exact Heap.lt_size e
theorem Paired.eU {d e:Type} {F G:d->e->Prop} {c:List d} {l₂:List e} (r:Paired F c l₂) (f:∀a b,F a b->G a b):Paired G c l₂:=by
 induction r with
 |nil=>exact .nil
 |cons a _ g=>exact .cons (f _ _ a) g
theorem Ay.QL (x:Ay P w H h a o) (k:∀b u,(b=a∨H b=some (.own a))->h.get? b=some u->h'.get? b=some u)
  (B:∀b,H b=some (.own a)->H' b=some (.own a)) (D:∀b xs,H b=some (.tup xs)->H' b=some (.tup xs)):Ay P w H' h' a o:=by
 induction o with
 |lst xs=>obtain⟨z,l,n,r,e⟩:=x;exact⟨z,l,n,r,k _ _ (.inl rfl) e⟩
 |tup xs=>obtain⟨z,l,r,g,e,c⟩:=x;exact⟨z,l,r,g,k _ _ (.inl rfl) e,c⟩
 |dK kvs=>obtain⟨z,y,E,r,g,i,j,e,c⟩:=x;exact⟨z,y,E,r,g,i,j,k _ _ (.inl rfl) e,c⟩
 |dT kvs=>
  obtain⟨z,y,xs,r,g,i,j,e,c⟩:=x
  exact⟨z,y,xs,Paired.eU r fun p q z=>⟨z.1,D _ _ z.2.1,z.2.2⟩,g,i,j,k _ _ (.inl rfl) e,c⟩
 |set S n=>obtain⟨g,i,j,t,e,c⟩:=x;exact⟨g,i,j,t,k _ _ (.inl rfl) e,c⟩
 |ins C I fs=>
  obtain⟨d,z,ne,e,m,⟨s,i,j,F,c⟩,r⟩:=x
  exact⟨B _ d,z,ne,k _ _ (.inl rfl) e,m,⟨s,i,j,k _ _ (.inr d) F,c⟩,r⟩
 |own y=>obtain⟨g,e⟩:=x;exact⟨g,k _ _ (.inl rfl) e⟩
 |xd fs=>obtain⟨m,⟨s,i,j,e,c⟩,r⟩:=x;exact⟨m,⟨s,i,j,k _ _ (.inl rfl) e,c⟩,r⟩
 |Ze lo J=>obtain⟨t,u,v,e⟩:=x;exact⟨t,u,v,k _ _ (.inl rfl) e⟩
 |CZ g u G=>obtain⟨e,q⟩:=x;exact⟨k _ _ (.inl rfl) e,G q⟩
 |aq A=>
  have e:h.get? a=some {cls:=.none,data:=.fields A}:=x
  show h'.get? a=some {cls:=.none,data:=.fields A}
  exact k a _ (.inl rfl) e
 |met f y=>
  have e:h.get? a=some (PySem.W.methodObj (.ref f) (.ref y)):=x
  show h'.get? a=some (PySem.W.methodObj (.ref f) (.ref y))
  exact k a _ (.inl rfl) e
 |ext K=>obtain⟨p,⟨o,e⟩,st⟩:=x;exact⟨st _ _ p fun o q=>k _ _ (.inl rfl) q,⟨o,k _ _ (.inl rfl) e⟩,st⟩
theorem GQ.lt (x:GQ P w H h) (e:H a=some o):a<h.objs.size:=(x a o e).lt
theorem GQ.fresh (x:GQ P w H h) (e:h.objs.size<=a):H a=none:=by
 cases q:H a with
 |none=>rfl
 |some u=>exact absurd (Nat.lt_of_lt_of_le (x.lt q) e) (Nat.lt_irrefl _)
theorem GQ.kept (x:GQ P w H h) (k:∀b u,h.get? b=some u->h'.get? b=some u):GQ P w H h':=fun a o e=>
 (x a o e).QL (fun b u _ q=>k b u q) (fun _ q=>q) fun _ _ q=>q
theorem GQ.laid (x:GQ P w H h) (k:∀b u,h.get? b=some u->h'.get? b=some u) (g:h.objs.size<=a) (new:Ay P w (upd H a o) h' a o):GQ P w (upd H a o) h':=fun b u e=>by
 have d:=x.fresh g
 by_cases f:b=a
 ·subst f;rw[AE]at e;cases e;exact new
 ·rw[AJ f]at e
  exact(x b u e).QL (fun c v _ q=>k c v q) (fun c q=>by rw[AJ (Ab q d)];exact q) fun c i q=>by rw[AJ (Ab q d)];exact q
end
def Rd (H:Hp) (a:Addr) (u:HO):Prop:=H a=some u∨∃o,H a=some (.CZ o u)
theorem Rd.ok {P:Program} {w:World} {H:Hp} {h:Heap} {a:Addr} {u:HO} (r:Rd H a u) (x:GQ P w H h):Ay P w H h a u:=by
 rcases r with r|⟨o,r⟩
 ·exact x a u r
 ·obtain⟨_,q⟩:=x a _ r
  exact q
def eV:Option HO->Prop
 |some (.lst _)=>True
 |some (.dK _)=>True
 |some (.dT _)=>True
 |some (.set _ _)=>True
 |some (.ins _ _ _)=>True
 |some (.ext _)=>True
 |_=>False
section
variable{P:Program} {w:World} {H:Hp} {h h':Heap} {x e:Addr} {o':HO}
theorem GQ.write (ok:GQ P w H h) (g:eV (H x)) (n:e=x∨H e=some (.own x)) (k:∀b u,b≠e->h.get? b=some u->h'.get? b=some u) (m:∃u,h'.get? e=some u)
  (new:Ay P w (upd H x o') h' x o'):GQ P w (upd H x o') h':=fun b u q=>by
 have d:∀c y,H c=some (.own y)->c≠x:=fun c y r z=>by subst z;rw[r]at g;exact g
 have f:∀c i,H c=some (.tup i)->c≠x:=fun c i r z=>by subst z;rw[r]at g;exact g
 by_cases j:b=x
 ·subst j;rw[AE]at q;cases q;exact new
 ·rw[AJ j]at q
  by_cases a:b=e
  ·have o:H b=some (.own x):=by
    rcases n with z|z
    ·exact absurd (a.trans z) j
    ·rw[a];exact z
   rw[q]at o;cases o
   obtain⟨v,p⟩:=m
   exact⟨v,by rw[a];exact p⟩
  ·refine(ok b u q).QL (fun c v l r=>k c v ?_ r) (fun c r=>by rw[AJ (d c b r)];exact r) fun c i r=>by rw[AJ (f c i r)];exact r
   rcases l with rfl|l
   ·exact a
   ·rintro rfl
    rcases n with z|z
    ·exact d c b l z
    ·rw[l]at z;cases z;exact j rfl
end
structure Un (fs ex:List Addr) (H H':Hp) (h h':Heap):Prop where
 keep:∀b o,h.get? b=some o->H b=none->b∉fs->b∉ex->h'.get? b=some o
 slot:∀b o,h.get? b=some o->H b=none->b∈fs->b∉ex->∃sl,h'.get? b=some {o with slots:=sl}
 free:∀b o,h.get? b=some o->H b=none->b∉ex->H' b=none
 there:∀b o,h.get? b=some o->b∉ex->∃o',h'.get? b=some o'
 Ja:∀b xs,H b=some (.tup xs)->H' b=some (.tup xs)
 Hz:∀b o u,H b=some (.CZ o u)->H' b=some (.CZ o u)
 LG:∀b ps,H b=some (.aq ps)->∃more,H' b=some (.aq (ps++more))
section
variable{fs wN ex ex':List Addr} {H H1 H2:Hp} {h h1 h2 h':Heap} {a x e:Addr} {o:HO}
theorem Un.any (u:Un fs ex H H1 h h1) {b:Addr} {c:Obj} (q:h.get? b=some c) (n:H b=none) (d:b∉ex):∃sl,h1.get? b=some {c with slots:=sl}:=by
 by_cases f:b∈fs
 ·exact u.slot b c q n f d
 ·exact⟨c.slots,u.keep b c q n f d⟩
theorem Un.kept (k:∀b u,h.get? b=some u->h'.get? b=some u):Un fs ex H H h h':=
 ⟨fun b c q _ _ _=>k b c q,fun b c q _ _ _=>⟨c.slots,k b c q⟩,fun _ _ _ n _=>n,fun b c q _=>⟨c,k b c q⟩,fun _ _ q=>q,fun _ _ _ q=>q,fun _ d q=>⟨#[],by rw[q];simp⟩⟩
theorem Un.refl:Un fs ex H H h h:=Un.kept fun _ _ q=>q
theorem Un.laid (k:∀b u,h.get? b=some u->h'.get? b=some u) (hp:h.objs.size<=a) (hn:H a=none):Un fs ex H (upd H a o) h h' where
 keep:=fun b u q _ _ _=>k b u q
 slot:=fun b u q _ _ _=>⟨u.slots,k b u q⟩
 free:=fun b u q n _=>by rw[AJ (Nat.ne_of_lt (Nat.lt_of_lt_of_le (Heap.lt_size q) hp))];exact n
 there:=fun b u q _=>⟨u,k b u q⟩
 Ja:=fun b xs q=>by rw[AJ (Ab q hn)];exact q
 Hz:=fun b u xs q=>by rw[AJ (Ab q hn)];exact q
 LG:=fun b ps q=>⟨#[],by rw[AJ (Ab q hn),q];simp⟩
theorem Un.write (d:eV (H x)) (l:e=x∨H e=some (.own x)) (k:∀b u,b≠e->h.get? b=some u->h'.get? b=some u) (f:∃u,h'.get? e=some u):Un fs ex H (upd H x o) h h':=by
 have i:∀b,H b=none->b≠x:=fun b n z=>by subst z;rw[n]at d;exact d
 have j:∀b,H b=none->b≠e:=fun b n z=>by
  subst z
  rcases l with r|r
  ·exact i b n r
  ·rw[n]at r;cases r
 have g:∀b u,H b=some u->¬eV (some u)->b≠x:=fun b u q m z=>by subst z;rw[q]at d;exact m d
 refine⟨fun b u q n _ _=>k b u (j b n) q,fun b u q n _ _=>⟨u.slots,k b u (j b n) q⟩,fun b u q n _=>by rw[AJ (i b n)];exact n,fun b u q _=>?_,
  fun b p q=>by rw[AJ (g b _ q fun z=>z)];exact q,fun b u p q=>by rw[AJ (g b _ q fun z=>z)];exact q,fun b s q=>⟨#[],by rw[AJ (g b _ q fun z=>z),q];simp⟩⟩
 by_cases c:b=e
 ·subst c;exact f
 ·exact⟨u,k b u c q⟩
end
def jK (h:Heap) (H:Hp):List Addr:=(List.range h.objs.size).filter fun a=>(H a).isSome
def MY (h:Heap) (H:Hp):Heap:=PySem.W.hideAll h (jK h H)
theorem TH (h:Heap) (H:Hp):(MY h H).objs.size=h.objs.size:=PySem.W.hideAll_size _ _
theorem Uo {h:Heap} {H:Hp} {b:Addr} {o:Obj} (e:h.get? b=some o) (n:H b=none):(MY h H).get? b=some o:=
 PySem.W.hideAll_get _ e fun a=>by
  have q:(H b).isSome=true:=(List.mem_filter.mp a).2
  rw[n]at q;simp at q
theorem Xr {h:Heap} {H:Hp} {b:Addr} {o:Obj} (e:(MY h H).get? b=some o):h.get? b=some o/\H b=none:=by
 have a:h.get? b=some o:=PySem.W.of_hideAll (jK h H) e
 refine⟨a,?_⟩
 cases q:H b with
 |none=>rfl
 |some x=>
  have c:b∈jK h H:=List.mem_filter.mpr ⟨List.mem_range.mpr (Heap.lt_size a),by simp[q]⟩
  have z:(MY h H).get? b=none:=PySem.W.hideAll_none (jK h H) c
  rw[z]at e;cases e
def Xs (g h:Heap) (L:Addr):List (Addr×Obj):=(List.range h.objs.size).filterMap fun a=>if a=L∨(g.get? a).isSome=true then none else(h.get? a).map fun o=>(a,o)
def rest (g h:Heap) (L d:Addr):List (Addr×Obj):=(Xs g h L).filter fun p=>decide (p.1≠d)
structure Mod (K:ACh) (mg:Str->Option Value) (base:Heap):Prop where
 eW:K.In base
 glob:base.Ns mainGlobals mg
 blt:∃mb,base.Ns builtinsNs mb/\∀x:Str,x≠"__name__"->mb x=bootBuiltins x
 nolimit:base.NoLimit
structure Cx where
 prog:Program
 w:World
 K:ACh
 mg:Str->Option Value
 base:Heap
 A:Around
 N:List Str
 s₀:Shared
 H₀:Hp
 env:Env
 outer:List Env
 stack:List Env
 ex:List Addr
 fn:Str->Bool
 calm:Bool
 pn:List (Addr×Obj)
 xe:Value->Shared->Prop
def Up (l:List Env):List Addr:=l.filterMap (·.frame)
abbrev Cx.fs (X:Cx):List Addr:=Up X.outer
def kK (a:Scope) (x:Str):Prop:=a.names.lookup x=some .local∨a.names.lookup x=some .cell∨a.names.lookup x=some .free
def Loc (a:Scope) (x:Str):Prop:=a.names.lookup x=some .local∨a.names.lookup x=some .cell
def Look (env:Env) (h:Heap) (m:Str->Option Value) (x:Str) (u:Value):Prop:=
 (env.kindOf x=some .local/\m x=some u)∨((env.kindOf x=some .cell∨env.kindOf x=some .free)/\∃c,env.cells.lookup x=some c/\h.IsCell c (some u))
structure Cx.Ok (X:Cx):Prop where
 mod:Mod X.K X.mg X.base
 kind:X.env.scope.kind=.function
 glob:X.env.globals=mainGlobals
 blt:X.env.builtins=builtinsNs
 above:X.s₀.heap.objs.size<=X.env.locals
 inj:∀x y c,X.env.cells.lookup x=some c->X.env.cells.lookup y=some c->x=y
 has:∀x,(X.env.kindOf x=some .cell∨X.env.kindOf x=some .free)->∃c,X.env.cells.lookup x=some c
 eX:∀x c,X.fn x=true->X.env.cells.lookup x=some c->X.s₀.heap.objs.size<=c
 hd:X.calm=true->X.A.handled=none
 frames:X.A.frames=some X.stack
 jL:X.stack=X.outer∨(X.stack=X.env::X.outer/\X.env.frame=some X.env.locals)
 jM:∀b∈X.ex,b≠X.env.locals/\∀x c,X.env.cells.lookup x=some c->c≠b
 bs:∀b o,X.base.get? b=some o->X.s₀.heap.get? b=some o/\X.H₀ b=none
 Zf:X.base.objs.size<=X.s₀.heap.objs.size
 Uq:∀b o,X.base.get? b=some o->b∉X.ex
 Ur:∀b∈X.ex,b∉X.fs
 Jb:X.s₀.heap.FunFrames X.base X.outer
 df:∀b∈X.fs,X.H₀ b=none
structure Inv (X:Cx) (pins:List (Addr×Obj)) (σ:List (Option V)) (H:Hp) (s:Shared):Prop where
 ok:X.Ok
 os:s.os=X.s₀.os
 bare:AllBare s.gens
 base:Un X.fs X.ex X.H₀ H X.s₀.heap s.heap
 loc:∃m,s.heap.Ns X.env.locals m/\∀(i:Nat) (x:Str) (v:V),X.N[i]?=some x->σ[i]?=some (some v)->kK X.env.scope x->∃u,RelV v u/\Look X.env s.heap m x u
 cell:∀x c,X.env.cells.lookup x=some c->∃v,s.heap.IsCell c v
 free:H X.env.locals=none
 Dl:∀x c,X.env.cells.lookup x=some c->H c=none
 pin:∀p∈X.pn++pins,s.heap.get? p.1=some p.2/\H p.1=none/\p.1≠X.env.locals/\p.1∉X.fs/\∀v,p.2.data≠.cell v
 BO:GQ X.prog X.w H s.heap
 len:σ.length=X.N.length
section
variable{X:Cx} {pins:List (Addr×Obj)} {σ:List (Option V)} {H H':Hp} {s:Shared} {h':Heap}
theorem Cx.Ok.kL (ok:X.Ok) {b:Addr} {o:Obj} (e:X.base.get? b=some o):b∉X.fs:=fun a=>by
 have:=(ok.Jb.mem a).1
 rw[e]at this;cases this
theorem Inv.bs (I:Inv X pins σ H s):∀b o,X.base.get? b=some o->s.heap.get? b=some o/\H b=none:=fun b o e=>
 ⟨I.base.keep b o (I.ok.bs b o e).1 (I.ok.bs b o e).2 (I.ok.kL e) (I.ok.Uq b o e),I.base.free b o (I.ok.bs b o e).1 (I.ok.bs b o e).2 (I.ok.Uq b o e)⟩
theorem Inv.bk (I:Inv X pins σ H s):∀b o,X.base.get? b=some o->s.heap.get? b=some o:=fun b o e=>(I.bs b o e).1
theorem Inv.mod (I:Inv X pins σ H s):Mod X.K X.mg X.base:=I.ok.mod
theorem Inv.Gf (I:Inv X pins σ H s):X.K.In s.heap:=I.ok.mod.eW.keeps I.bk
theorem Inv.lt (I:Inv X pins σ H s):X.env.locals<s.heap.objs.size:=let⟨_,a,_⟩:=I.loc;a.lt
theorem Inv.sz (I:Inv X pins σ H s):X.s₀.heap.objs.size<=s.heap.objs.size:=Nat.le_trans I.ok.above (Nat.le_of_lt I.lt)
theorem Inv.kM (I:Inv X pins σ H s) {a:Addr} (h:s.heap.objs.size<=a):a∉X.fs:=fun b=>by
 obtain⟨_,o,c,_⟩:=I.ok.Jb.mem b
 exact absurd (Nat.lt_of_lt_of_le (Heap.lt_size c) (Nat.le_trans I.sz h)) (Nat.lt_irrefl _)
theorem Inv.ar (I:Inv X pins σ H s):∀x c,X.env.cells.lookup x=some c->c≠X.env.locals:=fun x c e z=>by
 obtain⟨v,o,d,f⟩:=I.cell x c e
 obtain⟨m,⟨g,h,i,a,b,_⟩,_⟩:=I.loc
 rw[z,a]at d;cases d;rw[b]at f;cases f
theorem Inv.Jb (I:Inv X pins σ H s):s.heap.FunFrames X.base X.outer:=by
 have all:∀(l:List Env),(∀b∈Up l,b∈X.fs)->X.s₀.heap.FunFrames X.base l->s.heap.FunFrames X.base l:=by
  intro l
  induction l with
  |nil=>intro _ _;trivial
  |cons env r g=>
   intro f h
   obtain⟨i,⟨L,o,a,j,k,m⟩,n⟩:=h
   have c:L∈X.fs:=f L (by unfold Up;rw[List.filterMap_cons,a];exact List.mem_cons_self)
   obtain⟨p,e⟩:=I.base.slot L o k (I.ok.df L c) c fun z=>I.ok.Ur L z c
   exact⟨i,⟨L,_,a,j,e,m⟩,g (fun b d=>f b (by unfold Up;rw[List.filterMap_cons,a];exact List.mem_cons_of_mem _ d)) n⟩
 exact all X.outer (fun _ d=>d) I.ok.Jb
theorem Inv.stack (I:Inv X pins σ H s):s.heap.FunFrames X.base X.stack:=by
 rcases I.ok.jL with e|⟨e,a⟩
 ·rw[e];exact I.Jb
 ·rw[e]
  obtain⟨m,b,_⟩:=I.loc
  refine .cons (by rw[I.ok.kind];decide) a b ?_ I.Jb
  exact Heap.get?_none_of_le (Nat.le_trans I.ok.Zf I.ok.above)
theorem Inv.QM (I:Inv X pins σ H s):∀b∈Up X.stack,b∈X.env.locals::X.fs:=fun b a=>by
 rcases I.ok.jL with e|⟨e,c⟩
 ·rw[e]at a;exact List.mem_cons_of_mem _ a
 ·rw[e]at a
  unfold Up at a
  rw[List.filterMap_cons,c]at a
  exact a
theorem Inv.Rg (I:Inv X pins σ H s):∀b∈Up X.stack,H b=none:=fun b a=>by
 rcases List.mem_cons.mp (I.QM b a)with e|a
 ·rw[e];exact I.free
 ·obtain⟨_,o,c,_⟩:=I.ok.Jb.mem a
  exact I.base.free b o c (I.ok.df b a) fun z=>I.ok.Ur b z a
theorem Inv.step {g':Array GenState} {t':Nat} {d':Drawn} {ch:List Addr} (I:Inv X pins σ H s)
  (f:∀b∈ch,(b∈X.ex∨X.s₀.heap.objs.size<=b)/\b≠X.env.locals/\(∀x c,X.env.cells.lookup x=some c->c≠b)/\∀p∈X.pn++pins,p.1≠b)
  (keep:∀b o,b≠X.env.locals->b∉X.fs->b∉ch->s.heap.get? b=some o->H b=none->h'.get? b=some o)
  (slot:∀b o,b≠X.env.locals->b∈X.fs->b∉ch->s.heap.get? b=some o->H b=none->∃sl,h'.get? b=some {o with slots:=sl}) (free:∀b o,b∉ch->s.heap.get? b=some o->H b=none->H' b=none)
  (there:∀b o,b∉ch->s.heap.get? b=some o->∃B,h'.get? b=some B)
  (Ja:∀b t,H b=some (.tup t)->H' b=some (.tup t)) (Hz:∀b o u,H b=some (.CZ o u)->H' b=some (.CZ o u)) (LG:∀b E,H b=some (.aq E)->∃more,H' b=some (.aq (E++more)))
  (M:∀m,s.heap.Ns X.env.locals m->h'.Ns X.env.locals m) (F:GQ X.prog X.w H' h') (N:AllBare g'):
  Inv X pins σ H' {s with heap:=h',gens:=g',drawn:=d',toks:=t'}:=by
 have C:∀b o,X.s₀.heap.get? b=some o->b≠X.env.locals:=fun b o e=>Nat.ne_of_lt (Nat.lt_of_lt_of_le (Heap.lt_size e) I.ok.above)
 have h:∀b o,X.s₀.heap.get? b=some o->b∉X.ex->b∉ch:=fun b o e a y=>by
  rcases(f b y).1 with z|z
  ·exact a z
  ·exact absurd (Nat.lt_of_lt_of_le (Heap.lt_size e) z) (Nat.lt_irrefl _)
 have cellK:∀x c,X.env.cells.lookup x=some c->∀v,s.heap.IsCell c v->h'.IsCell c v:=fun x c e v ⟨o,A,G⟩=>by
  have g:c∉ch:=fun z=>(f c z).2.2.1 x c e rfl
  by_cases K:c∈X.fs
  ·obtain⟨sl,q⟩:=slot c o (I.ar x c e) K g A (I.Dl x c e)
   exact⟨_,q,G⟩
  ·exact⟨o,keep c o (I.ar x c e) K g A (I.Dl x c e),G⟩
 refine⟨I.ok,I.os,N,⟨fun b o e n y a=>?_,fun b o e n y a=>?_,fun b o e n a=>?_,fun b o e a=>?_,fun b t e=>Ja b t (I.base.Ja b t e),fun b o t e=>Hz b o t (I.base.Hz b o t e),fun b E e=>?_⟩,?_,fun x c e=>?_,?_,fun x c e=>?_,fun p L=>?_,F,I.len⟩
 ·exact keep b o (C b o e) y (h b o e a) (I.base.keep b o e n y a) (I.base.free b o e n a)
 ·obtain⟨sl,j⟩:=I.base.slot b o e n y a
  obtain⟨J,D⟩:=slot b _ (C b o e) y (h b o e a) j (I.base.free b o e n a)
  exact⟨J,D⟩
 ·obtain⟨B,j⟩:=I.base.there b o e a
  exact free b B (h b o e a) j (I.base.free b o e n a)
 ·obtain⟨B,j⟩:=I.base.there b o e a
  exact there b B (h b o e a) j
 ·obtain⟨O,j⟩:=I.base.LG b E e
  obtain⟨P,D⟩:=LG b _ j
  exact⟨O++P,by rw[D,Array.append_assoc]⟩
 ·obtain⟨m,Q,R⟩:=I.loc
  refine⟨m,M m Q,fun i x v j D S=>?_⟩
  obtain⟨u,r,l⟩:=R i x v j D S
  refine⟨u,r,?_⟩
  rcases l with l|⟨k,c,e,z⟩
  ·exact .inl l
  ·exact .inr ⟨k,c,e,cellK x c e _ z⟩
 ·obtain⟨v,z⟩:=I.cell x c e
  exact⟨v,cellK x c e v z⟩
 ·obtain⟨m,⟨o,_,_,A,_⟩,_⟩:=I.loc
  exact free _ o (fun z=>(f _ z).2.1 rfl) A I.free
 ·obtain⟨v,o,A,G⟩:=I.cell x c e
  exact free c o (fun z=>(f c z).2.2.1 x c e rfl) A (I.Dl x c e)
 ·obtain⟨e,n,ne,nf,d⟩:=I.pin p L
  have g:p.1∉ch:=fun z=>(f p.1 z).2.2.2 p L rfl
  exact⟨keep p.1 p.2 ne nf g e n,free p.1 p.2 g e n,ne,nf,d⟩
theorem Inv.un {t':Nat} (I:Inv X pins σ H s) (u:Un X.fs [] H H' s.heap h') (c:GQ X.prog X.w H' h'):Inv X pins σ H' {s with heap:=h',toks:=t'}:=by
 obtain⟨m,⟨o,l,p,h,r⟩,_⟩:=id I.loc
 obtain⟨q,i⟩:=u.any h I.free (by simp)
 exact I.step (g':=s.gens) (d':=s.drawn) (ch:=[]) (fun _ z=>nomatch z) (fun b o _ d _ e n=>u.keep b o e n d (by simp)) (fun b o _ d _ e n=>u.slot b o e n d (by simp)) (fun b o _ e n=>u.free b o e n (by simp)) (fun b o _ e=>u.there b o e (by simp)) u.Ja u.Hz u.LG (fun t j=>by
  obtain⟨v,f,g,a,k⟩:=j
  rw[h]at a;cases a
  exact⟨_,f,g,i,k⟩) c I.bare
theorem Inv.call {g':Array GenState} {t':Nat} {d':Drawn} {ch:List Addr} (I:Inv X pins σ H s) (u:Un (Up X.stack) ch H H' s.heap h') (g:GQ X.prog X.w H' h') (l:AllBare g')
  (d:∀b∈ch,(b∈X.ex∨X.s₀.heap.objs.size<=b)/\b≠X.env.locals/\(∀x c,X.env.cells.lookup x=some c->c≠b)/\∀p∈X.pn++pins,p.1≠b):
  Inv X pins σ H' {s with heap:=h',gens:=g',drawn:=d',toks:=t'}:=by
 obtain⟨m,⟨o,y,A,k,r⟩,_⟩:=id I.loc
 obtain⟨B,h⟩:=u.any k I.free fun z=>(d _ z).2.1 rfl
 exact I.step (ch:=ch) d (fun b o h q a e n=>u.keep b o e n (fun z=>(List.mem_cons.mp (I.QM b z)).elim h q) a) (fun b o _ _ a e n=>u.any e n a) (fun b o a e n=>u.free b o e n a) (fun b o a e=>u.there b o e a) u.Ja u.Hz u.LG (fun C t=>by
  obtain⟨D,i,j,f,v⟩:=t
  rw[k]at f;cases f
  exact⟨_,i,j,h,v⟩) g l
theorem Inv.turned {t':Nat} {a:Addr} (I:Inv X pins σ H s) (k:∀b o,b≠a->s.heap.get? b=some o->h'.get? b=some o) (h:H a=none) (g:a≠X.env.locals)
  (i:a∈X.ex∨X.s₀.heap.objs.size<=a) (j:∀x c,X.env.cells.lookup x=some c->c≠a) (l:∀p∈X.pn++pins,p.1≠a):Inv X pins σ H {s with heap:=h',toks:=t'}:=by
 have f:∀b u,H b=some u->b≠a:=fun b u e z=>by rw[z,h]at e;cases e
 refine I.step (g':=s.gens) (d':=s.drawn) (ch:=[a]) (fun b t=>?_) (fun b o _ _ d e _=>k b o (fun z=>d (by simp[z])) e) (fun b o _ _ d e _=>⟨o.slots,k b o (fun z=>d (by simp[z])) e⟩) (fun _ _ _ _ n=>n)
  (fun b o d e=>⟨o,k b o (fun z=>d (by simp[z])) e⟩) (fun _ _ e=>e) (fun _ _ _ e=>e) (fun b C e=>⟨#[],by rw[e];simp⟩) (fun m w=>?_) (fun b u e=>?_) I.bare
 ·have e:b=a:=by simpa using t
  subst e
  exact⟨i,g,j,l⟩
 ·obtain⟨o,y,A,B,r⟩:=w
  exact⟨o,y,A,k _ o (Ne.symm g) B,r⟩
 ·refine(I.BO b u e).QL (fun c v d q=>k c v ?_ q) (fun _ q=>q) fun _ _ q=>q
  rcases d with z|z
  ·rw[z];exact f b u e
  ·exact f c _ z
theorem Inv.tok (I:Inv X pins σ H s) (t:Nat):Inv X pins σ H {s with toks:=t}:=I.un (h':=s.heap) (t':=t) Un.refl I.BO
theorem Inv.kept {t':Nat} (I:Inv X pins σ H s) (k:∀b u,s.heap.get? b=some u->h'.get? b=some u):Inv X pins σ H {s with heap:=h',toks:=t'}:=I.un (Un.kept k) (I.BO.kept k)
theorem Inv.laid {a:Addr} {o:HO} {t':Nat} (I:Inv X pins σ H s) (k:∀b u,s.heap.get? b=some u->h'.get? b=some u) (c:s.heap.objs.size<=a) (new:Ay X.prog X.w (upd H a o) h' a o):
  Inv X pins σ (upd H a o) {s with heap:=h',toks:=t'}:=I.un (Un.laid k c (I.BO.fresh c)) (I.BO.laid k c new)
theorem Inv.write {x e:Addr} {o:HO} {t':Nat} (I:Inv X pins σ H s) (c:eV (H x)) (d:e=x∨H e=some (.own x)) (k:∀b u,b≠e->s.heap.get? b=some u->h'.get? b=some u) (a:∃u,h'.get? e=some u)
  (new:Ay X.prog X.w (upd H x o) h' x o):Inv X pins σ (upd H x o) {s with heap:=h',toks:=t'}:=I.un (Un.write c d k a) (I.BO.write c d k a new)
theorem Inv.Rh {a:List (Addr×Obj)} (I:Inv X pins σ H s) (h:∀p∈a,s.heap.get? p.1=some p.2/\H p.1=none/\p.1≠X.env.locals/\p.1∉X.fs/\∀v,p.2.data≠.cell v):Inv X a σ H s:=
 ⟨I.ok,I.os,I.bare,I.base,I.loc,I.cell,I.free,I.Dl,fun p b=>(List.mem_append.mp b).elim (fun z=>I.pin p (List.mem_append_left _ z)) (h p),I.BO,I.len⟩
theorem Nt {N:List Str} (c:N.Nodup) {i j:Nat} {x:Str} (a:N[i]?=some x) (b:N[j]?=some x):i=j:=by
 obtain⟨f,d⟩:=ACe a
 obtain⟨g,e⟩:=ACe b
 exact(List.getElem_inj c).mp (d.trans e.symm)
theorem Lb {M:Model} {A:Around} {E:Value->Shared->Prop} {i:Nat} {x:Str} {v:V} {u:Value} {Q:Unit->Shared->Prop} (I:Inv X pins σ H s) (hN:X.N.Nodup) (L:X.N[i]?=some x) (t:Loc X.env.scope x) (r:RelV v u)
  (h:∀Y,Inv X pins (σ.set i (some v)) H Y->(∃a,Heap.SameBut a s.heap Y.heap/\(a=X.env.locals∨X.env.cells.lookup x=some a))->Q () Y) (hf:X.fn x=true∨X.env.scope.names.lookup x=some .local:=by first|exact .inl rfl|exact .inr rfl|assumption):wpAny M A (storeName X.env x u) Q E s:=by
 obtain⟨m,Z,hl⟩:=id I.loc
 have O:(X.env.scope.kind==.class||(X.env.scope.kind==.module&&X.env.locals !=X.env.globals))=false:=by rw[I.ok.kind];rfl
 have D:i<σ.length:=by rw[I.len];exact(ACe L).1
 have ar:=I.ar
 have tracked:∀{a:Addr} {h':Heap},(∃o,s.heap.get? a=some o/\H a=none)->Heap.SameBut a s.heap h'->GQ X.prog X.w H h':=fun{a h'} ha f b ob e=>by
  obtain⟨_,_,B⟩:=ha
  refine(I.BO b ob e).QL (fun c U l q=>(f.2 c ?_).trans q) (fun _ q=>q) fun _ _ q=>q
  rintro rfl
  rcases l with rfl|l
  ·rw[B]at e;cases e
  ·rw[B]at l;cases l
 rcases t with F|F
 ·refine wpAny_storeName_local F Z (fun h' wO f=>?_) O
  obtain⟨oL,_,_,wQ,_⟩:=id Z
  refine h _ ⟨I.ok,I.os,I.bare,⟨fun b o e n G t=>?_,fun b o e n G t=>?_,I.base.free,fun b o e t=>?_,I.base.Ja,I.base.Hz,I.base.LG⟩,⟨_,wO,fun j y v' g C e3=>?_⟩,fun y c e=>?_,I.free,I.Dl,fun p hp=>?_,tracked ⟨oL,wQ,I.free⟩ f,by simpa using I.len⟩ ⟨_,f,.inl rfl⟩
  ·exact(f.2 b (Nat.ne_of_lt (Nat.lt_of_lt_of_le (Heap.lt_size e) I.ok.above))).trans (I.base.keep b o e n G t)
  ·obtain⟨sl,g⟩:=I.base.slot b o e n G t
   exact⟨sl,(f.2 b (Nat.ne_of_lt (Nat.lt_of_lt_of_le (Heap.lt_size e) I.ok.above))).trans g⟩
  ·obtain⟨o',g⟩:=I.base.there b o e t
   exact⟨o',(f.2 b (Nat.ne_of_lt (Nat.lt_of_lt_of_le (Heap.lt_size e) I.ok.above))).trans g⟩
  ·by_cases J:j=i
   ·subst J
    rw[L]at g;cases g
    rw[List.getElem?_set_self D]at C
    cases C
    exact⟨u,r,.inl ⟨F,by simp⟩⟩
   ·rw[List.getElem?_set_ne (Ne.symm J)]at C
    obtain⟨u',r',q⟩:=hl j y v' g C e3
    refine⟨u',r',?_⟩
    rcases q with⟨k,e⟩|⟨k,c,e,z⟩
    ·refine .inl ⟨k,?_⟩
     have:y≠x:=fun e=>J (Nt hN g (e▸L))
     simp[this,e]
    ·exact .inr ⟨k,c,e,z.sameBut f (ar y c e)⟩
  ·obtain⟨U,z⟩:=I.cell y c e
   exact⟨U,z.sameBut f (ar y c e)⟩
  ·obtain⟨e,n,ne,nf,d⟩:=I.pin p hp
   exact⟨(f.2 p.1 ne).trans e,n,ne,nf,d⟩
 ·have K:X.fn x=true:=by
   rcases hf with z|z
   ·exact z
   ·rw[z]at F;cases F
  obtain⟨c,l⟩:=I.ok.has x (.inl F)
  obtain⟨U,z⟩:=I.cell x c l
  refine wpAny_storeName_cell I.ok.kind F l z (fun h' P f=>?_)
  obtain⟨oc,R,S⟩:=id z
  refine h {s with heap:=h'} ⟨I.ok,I.os,I.bare,⟨fun b o e n G t=>?_,fun b o e n G t=>?_,I.base.free,fun b o e t=>?_,I.base.Ja,I.base.Hz,I.base.LG⟩,⟨m,Z.sameBut f (Ne.symm (ar x c l)),fun j y v' g C e3=>?_⟩,fun y W e=>?_,I.free,I.Dl,fun p hp=>?_,tracked ⟨oc,R,I.Dl x c l⟩ f,by simpa using I.len⟩ ⟨c,f,.inr l⟩
  ·exact(f.2 b (Nat.ne_of_lt (Nat.lt_of_lt_of_le (Heap.lt_size e) (I.ok.eX x c K l)))).trans (I.base.keep b o e n G t)
  ·obtain⟨sl,g⟩:=I.base.slot b o e n G t
   exact⟨sl,(f.2 b (Nat.ne_of_lt (Nat.lt_of_lt_of_le (Heap.lt_size e) (I.ok.eX x c K l)))).trans g⟩
  ·obtain⟨o',g⟩:=I.base.there b o e t
   exact⟨o',(f.2 b (Nat.ne_of_lt (Nat.lt_of_lt_of_le (Heap.lt_size e) (I.ok.eX x c K l)))).trans g⟩
  ·by_cases J:j=i
   ·subst J
    rw[L]at g;cases g
    rw[List.getElem?_set_self D]at C
    cases C
    exact⟨u,r,.inr ⟨.inl F,c,l,P⟩⟩
   ·rw[List.getElem?_set_ne (Ne.symm J)]at C
    obtain⟨u',r',q⟩:=hl j y v' g C e3
    refine⟨u',r',?_⟩
    rcases q with q|⟨k,W,e,z'⟩
    ·exact .inl q
    ·refine .inr ⟨k,W,e,z'.sameBut f ?_⟩
     rintro rfl
     exact J (Nt hN g (I.ok.inj _ _ _ e l▸L))
  ·by_cases T:W=c
   ·subst T;exact⟨_,P⟩
   ·obtain⟨w2,z2⟩:=I.cell y W e
    exact⟨w2,z2.sameBut f T⟩
  ·obtain⟨e,n,ne,nf,d⟩:=I.pin p hp
   refine⟨(f.2 p.1 ?_).trans e,n,ne,nf,d⟩
   intro q
   rw[q,R]at e
   have q':oc=p.2:=ACf e
   exact d U (by rw[<-q'];exact S)
theorem Nu {M:Model} {A:Around} {E:Value->Shared->Prop} {i:Nat} {x:Str} {v:V} {u:Value} {Q:Unit->Shared->Prop} (I:Inv X pins σ H s) (b:X.N.Nodup) (c:X.N[i]?=some x) (d:Loc X.env.scope x) (r:RelV v u)
  (h:∀a,Inv X pins (σ.set i (some v)) H a->Q () a) (e:X.fn x=true∨X.env.scope.names.lookup x=some .local:=by first|exact .inl rfl|exact .inr rfl|assumption):wpAny M A (storeName X.env x u) Q E s:=
 Lb I b c d r (fun a f _=>h a f) e
theorem Inv.eY {a:Shared} {ch:List Addr} (I:Inv X pins σ H s) (g:a.os=s.os) (u:Un (Up X.stack) ch H H' s.heap a.heap) (d:GQ X.prog X.w H' a.heap) (h:AllBare a.gens)
  (f:∀b∈ch,(b∈X.ex∨X.s₀.heap.objs.size<=b)/\b≠X.env.locals/\(∀x c,X.env.cells.lookup x=some c->c≠b)/\∀p∈X.pn++pins,p.1≠b):Inv X pins σ H' a:=by
 obtain⟨h',g',d',t',i⟩:=a
 have e:i=s.os:=g
 subst e
 exact I.call (g':=g') (t':=t') (d':=d') u d h f
end
abbrev XK:=Value->Option Addr->Hp->Prop
abbrev St:=List (Option V)
abbrev VK:=V->Hp->Prop
abbrev TE:=St->Hp->VK->Prop
abbrev TT:=St->Hp->(Bool->Hp->Prop)->Prop
abbrev TA:=St->Hp->(List V->Hp->Prop)->Prop
structure Ends where
 nx:St->Hp->Prop
 rt:VK
 bk:St->Hp->Prop:=fun _ _=>False
 ct:St->Hp->Prop:=fun _ _=>False
abbrev TS:=Ends->St->Hp->Prop
inductive kN (x:V) (H:Hp) (Q:Bool->Hp->Prop):Prop
 |mk (c:Bool) (e:x=.bl c) (q:Q c H):kN x H Q
inductive eZ (a:TE) (σ:St) (x:V) (H:Hp) (Q:VK):Prop
 |mk (c:Bool) (e:x=.bl c) (q:if c=true then a σ H Q else Q (.bl false) H):eZ a σ x H Q
inductive tD (a:TE) (σ:St) (x:V) (H:Hp) (Q:VK):Prop
 |mk (c:Bool) (e:x=.bl c) (q:if c=true then Q (.bl true) H else a σ H Q):tD a σ x H Q
inductive kO (x:V) (H:Hp) (Q:VK):Prop
 |mk (c:Bool) (e:x=.bl c) (q:Q (.bl (!c)) H):kO x H Q
inductive wR (x y:V) (H:Hp) (k:Int->Int->Hp->Prop):Prop
 |mk (i j:Int) (e:x=.int i) (a:y=.int j) (q:k i j H):wR x y H k
inductive tE (x:V) (H:Hp) (Q:Option Int->Hp->Prop):Prop
 |mk (i:Int) (e:x=.int i) (q:Q (some i) H):tE x H Q
inductive kP (i j:Nat) (N:St->Hp->Prop) (σ:St) (vs:List V) (H:Hp):Prop
 |mk (v w:V) (e:vs=[v,w]) (q:N ((σ.set i (some v)).set j (some w)) H):kP i j N σ vs H
inductive EP (X:Cx) (pins:List (Addr×Obj)) (σ:St) (Q:VK) (u:Value) (a:Shared):Prop
 |mk (v:V) (b:Hp) (I:Inv X pins σ b a) (r:RelV v u) (q:Q v b):EP X pins σ Q u a
inductive TP (X:Cx) (pins:List (Addr×Obj)) (σ:St) (Q:Bool->Hp->Prop) (b:Bool) (a:Shared):Prop
 |mk (c:Hp) (I:Inv X pins σ c a) (q:Q b c):TP X pins σ Q b a
inductive AP (X:Cx) (pins:List (Addr×Obj)) (σ:St) (Q:List V->Hp->Prop) (us:List Value) (a:Shared):Prop
 |mk (vs:List V) (b:Hp) (I:Inv X pins σ b a) (r:Vals vs us) (q:Q vs b):AP X pins σ Q us a
theorem EP.elim {X:Cx} {pins:List (Addr×Obj)} {σ:St} {Q:VK} {u:Value} {b:Shared} {G:Prop} (h:EP X pins σ Q u b) (k:∀(v:V) (a:Hp),Inv X pins σ a b->RelV v u->Q v a->G):G:=by
 cases h with
 |mk v a I r q=>exact k v a I r q
theorem AP.elim {X:Cx} {pins:List (Addr×Obj)} {σ:St} {Q:List V->Hp->Prop} {us:List Value} {b:Shared} {G:Prop} (h:AP X pins σ Q us b) (k:∀(vs:List V) (a:Hp),Inv X pins σ a b->Vals vs us->Q vs a->G):G:=by
 cases h with
 |mk v a I r q=>exact k v a I r q
theorem TP.elim {X:Cx} {pins:List (Addr×Obj)} {σ:St} {Q:Bool->Hp->Prop} {b:Bool} {c:Shared} {G:Prop} (h:TP X pins σ Q b c) (k:∀a:Hp,Inv X pins σ a c->Q b a->G):G:=by
 cases h with
 |mk a I q=>exact k a I q
inductive jN (X:Cx) (pins:List (Addr×Obj)) (N:St->Hp->Prop) (a:Shared):Prop
 |mk (σ:St) (b:Hp) (I:Inv X pins σ b a) (q:N σ b):jN X pins N a
inductive tF (X:Cx) (pins:List (Addr×Obj)) (Q:VK) (u:Value) (a:Shared):Prop
 |mk (v:V) (σ:St) (b:Hp) (I:Inv X pins σ b a) (r:RelV v u) (q:Q v b):tF X pins Q u a
def SP (X:Cx) (pins:List (Addr×Obj)) (D:Ends) (f:Flow) (a:Shared):Prop:=
 match f with
 | .next=>jN X pins D.nx a
 | .brk=>jN X pins D.bk a
 | .cont=>jN X pins D.ct a
 | .ret u=>tF X pins D.rt u a
def PE (X:Cx) (e:Expr) (t:TE):Prop:=
 ∀(pins:List (Addr×Obj)) (s:Shared) (a:St) (H:Hp) (Q:VK),Inv X pins a H s->t a H Q->wpAny (model X.prog X.w) X.A (eval e X.env) (EP X pins a Q) X.xe s
def PT (X:Cx) (e:Expr) (t:TT):Prop:=
 ∀(pins:List (Addr×Obj)) (s:Shared) (a:St) (H:Hp) (Q:Bool->Hp->Prop),Inv X pins a H s->t a H Q->wpAny (model X.prog X.w) X.A (isTrue e X.env (eval e X.env)) (TP X pins a Q) X.xe s
def PW (X:Cx) (e:Expr) (t:TT):Prop:=
 ∀(whole:Sem Value) (pins:List (Addr×Obj)) (s:Shared) (a:St) (H:Hp) (Q:Bool->Hp->Prop),Inv X pins a H s->t a H Q->wpAny (model X.prog X.w) X.A (isTrue e X.env whole) (TP X pins a Q) X.xe s
theorem PW.pt {X:Cx} {e:Expr} {t:TT} (h:PW X e t):PT X e t:=h _
def PA (X:Cx) (es:List Expr) (t:TA):Prop:=
 ∀(pos:Pos) (pins:List (Addr×Obj)) (s:Shared) (a:St) (H:Hp) (Q:List V->Hp->Prop),Inv X pins a H s->t a H Q->wpAny (model X.prog X.w) X.A (spliced (backTo pos (starEach es X.env))) (AP X pins a Q) X.xe s
def PS (X:Cx) (st:Stmt) (t:TS):Prop:=
 ∀(pins:List (Addr×Obj)) (s:Shared) (a:St) (H:Hp) (D:Ends),Inv X pins a H s->t D a H->wpAny (model X.prog X.w) X.A (exec st X.env) (SP X pins D) X.xe s
def TK (X:Cx) (st:List Stmt) (t:TS):Prop:=
 ∀(pins:List (Addr×Obj)) (s:Shared) (a:St) (H:Hp) (D:Ends),Inv X pins a H s->t D a H->wpAny (model X.prog X.w) X.A (execs st X.env) (SP X pins D) X.xe s
theorem Bo {b:Type} {t:Sem b} {Q c:b->Shared->Prop} {M:Model} {A:Around} {E:Value->Shared->Prop} {s:Shared} (h:wpAny M A t Q E s) (d:∀a s,Q a s->c a s):wpAny M A t c E s:=wpAny_mono h d fun _ _ x=>x
section
variable{X:Cx}
inductive Zg (i:Nat) (σ:St) (H:Hp) (Q:VK):Prop
 |mk (v:_) (a:σ[i]?=some (some v)) (b:Q v H):Zg i σ H Q
def Nv (i:Nat):TE:=fun a H Q=>Zg i a H Q
def tC (v:V):TE:=fun _ H Q=>Q v H
theorem au {i:Nat} {x:Str} {pos:Pos} (j:X.N[i]?=some x) (k:kK X.env.scope x) (d:(x==("__debug__":Str))=false:=by decide) (f:(x==("__classdict__":Str))=false:=by decide):PE X (.Name x pos) (Nv i):=by
 intro pins s n H Q I h
 obtain⟨v,e,h⟩:=h
 obtain⟨m,o,p⟩:=I.loc
 obtain⟨u,r,l⟩:=p i x v j e k
 have fin:EP X pins n Q u s:=⟨v,H,I,r,h⟩
 rcases l with⟨b,q⟩|⟨b,c,g,a⟩
 ·exact wpAny_Name (wpAny_loadName_local I.ok.kind b o q fin) d
 ·rcases b with b|b
  ·exact wpAny_Name (wpAny_loadName_cell I.ok.kind b g a fin) d
  ·exact wpAny_Name (wpAny_loadName_free I.ok.kind b g a fin f) d
theorem AD {i j pos}:PE X (.Constant (.int i) j pos) (tC (.int i)):=fun _ _ _ H _ I h=>wpAny_Constant_int ⟨.int i,H,I.tok _,⟨_,rfl⟩,h⟩
theorem Ct {b j pos}:PE X (.Constant (.bool b) j pos) (tC (.bl b)):=fun _ _ _ H _ I h=>Constant_bool ⟨.bl b,H,I,rfl,h⟩
theorem MZ {j pos}:PE X (.Constant .none j pos) (tC .BV):=fun _ _ _ H _ I h=>Constant_none ⟨.BV,H,I,rfl,h⟩
theorem Ag {x j pos}:PE X (.Constant (.str x) j pos) (tC (.str x)):=fun _ _ _ H _ I h=>Calls.Constant_str ⟨.str x,H,I.tok _,⟨_,rfl⟩,h⟩
def Gl (X:Cx) (x:Str):Prop:=X.env.kindOf x=some .globalImplicit
theorem Ri {E:Value->Shared->Prop} {pins:List (Addr×Obj)} {s:Shared} {σ:St} {H:Hp} {x:Str} {u:Value} {pos:Pos} {Q:Value->Shared->Prop} (I:Inv X pins σ H s) (a:Gl X x) (b:X.mg x=some u) (h:Q u s)
  (c:(x==("__debug__":Str))=false:=by decide):wpAny (model X.prog X.w) X.A (eval (.Name x pos) X.env) Q E s:=
 Calls.Name_function_global I.ok.kind a (Calls.loadGlobal_global (by rw[I.ok.glob];exact I.mod.glob.keeps I.bk) b h) c
theorem Ec {E:Value->Shared->Prop} {pins:List (Addr×Obj)} {s:Shared} {σ:St} {H:Hp} {x:Str} {u:Value} {pos:Pos} {Q:Value->Shared->Prop} (I:Inv X pins σ H s) (a:Gl X x) (b:X.mg x=none) (c:bootBuiltins x=some u) (h:Q u s)
  (d:x≠"__name__":=by decide) (e:(x==("__debug__":Str))=false:=by decide):wpAny (model X.prog X.w) X.A (eval (.Name x pos) X.env) Q E s:=by
 obtain⟨i,f,g⟩:=I.mod.blt
 exact Calls.Name_function_global I.ok.kind a (Calls.loadGlobal_builtin (by rw[I.ok.glob];exact I.mod.glob.keeps I.bk) b (by rw[I.ok.blt];exact f.keeps I.bk) ((g x d).trans c) h) e
theorem Ma {x:Str} {v:V} {u:Value} {pos:Pos} (a:Gl X x) (b:X.mg x=some u) (r:RelV v u) (c:(x==("__debug__":Str))=false:=by decide):PE X (.Name x pos) (tC v):=
 fun _ _ _ H _ I h=>Ri I a b ⟨v,H,I,r,h⟩ c
theorem BE {x:Str} {v:V} {u:Value} {pos:Pos} (a:Gl X x) (b:X.mg x=none) (c:bootBuiltins x=some u) (r:RelV v u) (d:x≠"__name__":=by decide) (e:(x==("__debug__":Str))=false:=by decide):PE X (.Name x pos) (tC v):=
 fun _ _ _ H _ I h=>Ec I a b c ⟨v,H,I,r,h⟩ d e
variable{a b:Expr} {ta tb:TE} {pos:Pos}
def PC (X:Cx) (op:CmpOp) (a b:Expr) (t:TE):Prop:=
 ∀(pins:List (Addr×Obj)) (s:Shared) (e:St) (H:Hp) (Q:VK),Inv X pins e H s->t e H Q->
  wpAny (model X.prog X.w) X.A (eval a X.env) (fun v c=>wpAny (model X.prog X.w) X.A (eval b X.env) (fun u d=>wpAny (model X.prog X.w) X.A (compareOp op v u) (EP X pins e Q) X.xe d) X.xe c) X.xe s
def tB (t:TE):TT:=fun c H Q=>t c H fun x d=>kN x d Q
theorem Jc {op:CmpOp} {t:TE} (h:PC X op a b t) (f:behindInMarks op b=false:=by first|exact e _ (by decide) (by decide)|rfl):PT X (.Compare a [op] [b] pos) (tB t):=by
 intro pins s g H Q I hw
 refine wpAny_isTrue_Compare1 (Bo (h pins s g H _ I hw) fun v o f=>Bo f fun u p i=>Bo i fun c r j=>j.elim fun x k l m n=>?_) f
 obtain⟨d,rfl,q⟩:=n
 cases m
 exact wpAny_truthy_bool ⟨k,l,q⟩
theorem A_ {e:Expr} {t:TE} (h:PE X e t) (c:∀whole,isTrue e X.env whole=(do let v<-whole;standAt e.pos;holding [v] (truthy v)):=by intro _;rfl):PT X e (tB t):=by
 intro pins s f H Q I hw
 refine isTrue_plain (Bo (h pins s f H _ I hw) fun v m g=>g.elim fun x i j k l=>?_) (c _)
 obtain⟨d,rfl,q⟩:=l
 cases k
 exact wpAny_truthy_bool ⟨i,j,q⟩
variable{tA jO:TT} {rest:List Expr}
def kQ (t u:TT):TT:=fun d H Q=>t d H fun c e=>if c=true then u d e Q else Q false e
def wU (t u:TT):TT:=fun d H Q=>t d H fun c e=>if c=true then Q true e else u d e Q
def kR (t:TT):TT:=fun d H Q=>t d H fun c e=>Q (!c) e
theorem CF (d:PT X a tA):PW X (.BoolOp .And [a] pos) tA:=by
 intro g pins s f H Q I h
 refine isTrue_and (Bo (d pins s f H Q I h) fun c i e=>?_)
 cases c with
 |true=>exact isTrue_and_nil e
 |false=>exact e
theorem Ed (d:PT X a tA):PW X (.BoolOp .Or [a] pos) tA:=by
 intro g pins s f H Q I h
 refine isTrue_or (Bo (d pins s f H Q I h) fun c i e=>?_)
 cases c with
 |false=>exact isTrue_or_nil e
 |true=>exact e
theorem CD (i:PT X a tA) (j:PW X (.BoolOp .And (b::rest) pos) jO):PW X (.BoolOp .And (a::b::rest) pos) (kQ tA jO):=by
 intro k pins s d H Q I h
 refine isTrue_and (Bo (i pins s d H _ I h) fun c l m=>m.elim fun e f g=>?_)
 cases c with
 |true=>exact j k pins l d e Q f g
 |false=>exact⟨e,f,g⟩
theorem ED (i:PT X a tA) (j:PW X (.BoolOp .Or (b::rest) pos) jO):PW X (.BoolOp .Or (a::b::rest) pos) (wU tA jO):=by
 intro k pins s d H Q I h
 refine isTrue_or (Bo (i pins s d H _ I h) fun c l m=>m.elim fun e f g=>?_)
 cases c with
 |true=>exact⟨e,f,g⟩
 |false=>exact j k pins l d e Q f g
theorem DS (e:PT X a tA):PT X (.UnaryOp .Not a pos) (kR tA):=by
 intro pins s f H Q I h
 exact isTrue_not (Bo (e pins s f H (fun c d=>Q (!c) d) I h) fun c k g=>g.elim fun d i j=>⟨d,i,j⟩)
def en (ta tb:TE):TE:=fun c H Q=>ta c H fun x d=>eZ tb c x d Q
def kS (ta tb:TE):TE:=fun c H Q=>ta c H fun x d=>tD tb c x d Q
theorem Us {op} {t:TE} (h:PE X a t):PE X (.BoolOp op [a] pos) t:=fun pins s c H Q I hw=>BoolOp_one (h pins s c H Q I hw)
theorem QN (i:PE X a ta) (j:PE X (.BoolOp .And (b::rest) pos) tb):PE X (.BoolOp .And (a::b::rest) pos) (en ta tb):=by
 intro pins s e H Q I h
 refine BoolOp_and (Bo (i pins s e H _ I h) fun v k l=>l.elim fun x f g m d=>?_)
 obtain⟨c,rfl,d⟩:=d
 cases m
 refine wpAny_truthy_bool ?_
 cases c with
 |true=>exact j pins k e f Q g d
 |false=>exact⟨.bl false,f,g,rfl,d⟩
theorem eo (i:PE X a ta) (j:PE X (.BoolOp .Or (b::rest) pos) tb):PE X (.BoolOp .Or (a::b::rest) pos) (kS ta tb):=by
 intro pins s e H Q I h
 refine BoolOp_or (Bo (i pins s e H _ I h) fun v k l=>l.elim fun x f g m d=>?_)
 obtain⟨c,rfl,d⟩:=d
 cases m
 refine wpAny_truthy_bool ?_
 cases c with
 |false=>exact j pins k e f Q g d
 |true=>exact⟨.bl true,f,g,rfl,d⟩
end
def Ah (K:ACh) (H:Hp) (a:Addr) (xs:List V):Prop:=
 Rd H a (.lst xs)∨
  ∃(o:Obj) (b:Array Value) (n:Nat),K.lookup a=some o/\o.cls=.type "list"/\o.dict=none/\o.data=.seq b n/\b.size<=sizeLine/\Vals xs b.toList
def Bj (K:ACh) (H:Hp) (a:Addr) (xs:List V):Prop:=
 Rd H a (.tup xs)∨
  ∃(o:Obj) (b:Array Value) (n:Nat),K.lookup a=some o/\o.cls=.type "tuple"/\o.data=.seq b n/\b.size<=sizeLine/\Vals xs b.toList
def kT:Value->Option V
 | .none=>some .BV
 | .bool b=>some (.bl b)
 | .int i _=>some (.int i)
 | .str x _=>some (.str x)
 | .bytes b _=>some (.Nr b)
 | .float b _=>some (.de b)
 | .ref a=>some (.ref a)
 | .type n=>some (.ty n)
 |_=>none
theorem RelV.abs {x:V} {u:Value} (r:RelV x u):kT u=some x:=by
 cases x with
 |BV=>cases r;rfl
 |bl _=>cases r;rfl
 |int _=>obtain⟨t,rfl⟩:=r;rfl
 |str _=>obtain⟨t,rfl⟩:=r;rfl
 |Nr _=>obtain⟨t,rfl⟩:=r;rfl
 |de _=>obtain⟨t,rfl⟩:=r;rfl
 |ref _=>cases r;rfl
 |ty _=>cases r;rfl
theorem RelV.inj {x y:V} {u:Value} (r:RelV x u) (q:RelV y u):x=y:=ACf (r.abs.symm.trans q.abs)
theorem Vals.inj {xs ys:List V} {us:List Value} (r:Vals xs us) (s:Vals ys us):xs=ys:=by
 induction r generalizing ys with
 |nil=>exact(List.eq_nil_of_length_eq_zero (Paired.length s)).symm
 |cons a _ b=>
  cases ys with
  |nil=>exact absurd (Paired.length s) (Nat.succ_ne_zero _).symm
  |cons y f=>
   obtain⟨u,g,e,h,t⟩:=Vals.inv s
   injection e with c d
   subst c d
   rw[a.inj h,b t]
section
variable{X:Cx} {pins:List (Addr×Obj)} {σ:St} {H:Hp} {s:Shared} {a:Addr} {xs ys:List V}
theorem Ah.of {K:ACh} (h:H a=some (.lst xs)):Ah K H a xs:=.inl (.inl h)
theorem Bj.of {K:ACh} (h:H a=some (.tup xs)):Bj K H a xs:=.inl (.inl h)
theorem Inv.list (I:Inv X pins σ H s) (h:Ah X.K H a xs):∃its:List Value,Vals xs its/\PlainL s.heap a its.toArray/\xs.length<=sizeLine:=by
 rcases h with h|⟨o,its,n,b,c,d,f,g,r⟩
 ·obtain⟨z,its,n,r,e⟩:=h.ok I.BO
  exact⟨its,r,⟨_,n,e,rfl,rfl,rfl⟩,z⟩
 ·refine⟨its.toList,r,⟨o,n,I.Gf a o b,c,d,by simpa using f⟩,?_⟩
  have e:=r.length
  simp only[Array.length_toList]at e
  lia
theorem Inv.tuple (I:Inv X pins σ H s) (h:Bj X.K H a xs):∃its:List Value,Vals xs its/\IsTup s.heap a its.toArray/\xs.length<=sizeLine:=by
 rcases h with h|⟨o,its,n,b,c,d,f,r⟩
 ·obtain⟨z,its,r,p⟩:=h.ok I.BO
  exact⟨its,r,p,z⟩
 ·refine⟨its.toList,r,⟨o,I.Gf a o b,c,n,by simpa using d⟩,?_⟩
  have e:=r.length
  simp only[Array.length_toList]at e
  lia
theorem Inv.Nw (I:Inv X pins σ H s) (h:Ah X.K H a xs) (h':Ah X.K H a ys):xs=ys:=by
 obtain⟨c,r,⟨o,n,e,_,_,d⟩,_⟩:=I.list h
 obtain⟨b,i,⟨k,l,f,_,_,g⟩,_⟩:=I.list h'
 rw[e]at f;cases f
 rw[d]at g
 injection g with j _
 have:c=b:=by simpa using congrArg Array.toList j
 subst this
 exact r.inj i
theorem Inv.TL (I:Inv X pins σ H s) (h:Bj X.K H a xs) (h':Bj X.K H a ys):xs=ys:=by
 obtain⟨c,r,⟨o,e,_,n,d⟩,_⟩:=I.tuple h
 obtain⟨b,i,⟨k,f,_,l,g⟩,_⟩:=I.tuple h'
 rw[e]at f;cases f
 rw[d]at g
 injection g with j _
 have:c=b:=by simpa using congrArg Array.toList j
 subst this
 exact r.inj i
end
abbrev Cx.LH (X:Cx) (E:Value->Shared->Prop):Cx:={X with xe:=E}
abbrev Cx.jP (X:Cx):Cx:=X.LH fun _ _=>False
theorem Cx.Ok.LH {X:Cx} (ok:X.Ok) (E:Value->Shared->Prop):(X.LH E).Ok:=
 ⟨ok.mod,ok.kind,ok.glob,ok.blt,ok.above,ok.inj,ok.has,ok.eX,ok.hd,ok.frames,ok.jL,ok.jM,ok.bs,ok.Zf,ok.Uq,ok.Ur,ok.Jb,ok.df⟩
theorem Cx.Ok.FF {X:Cx} {E:Value->Shared->Prop} (ok:(X.LH E).Ok):X.Ok:=
 ⟨ok.mod,ok.kind,ok.glob,ok.blt,ok.above,ok.inj,ok.has,ok.eX,ok.hd,ok.frames,ok.jL,ok.jM,ok.bs,ok.Zf,ok.Uq,ok.Ur,ok.Jb,ok.df⟩
section
variable{X:Cx} {pins:List (Addr×Obj)} {σ:St} {H:Hp} {s:Shared} {E:Value->Shared->Prop}
theorem Inv.LH (I:Inv X pins σ H s) (E:Value->Shared->Prop):Inv (X.LH E) pins σ H s:=⟨I.ok.LH E,I.os,I.bare,I.base,I.loc,I.cell,I.free,I.Dl,I.pin,I.BO,I.len⟩
theorem Inv.FF (I:Inv (X.LH E) pins σ H s):Inv X pins σ H s:=⟨I.ok.FF,I.os,I.bare,I.base,I.loc,I.cell,I.free,I.Dl,I.pin,I.BO,I.len⟩
theorem SP.FF {D:Ends} {f:Flow} {c:Shared} (h:SP (X.LH E) pins D f c):SP X pins D f c:=by
 cases f with
 |next=>obtain⟨a,b,I,q⟩:=h;exact⟨a,b,I.FF,q⟩
 |brk=>obtain⟨a,b,I,q⟩:=h;exact⟨a,b,I.FF,q⟩
 |cont=>obtain⟨a,b,I,q⟩:=h;exact⟨a,b,I.FF,q⟩
 |ret u=>obtain⟨v,a,b,I,r,q⟩:=h;exact⟨v,a,b,I.FF,r,q⟩
theorem TK.jP {st:List Stmt} {t:TS} (h:TK X.jP st t):TK X st t:=fun pins s σ H D I hw=>
 wpAny_mono (h pins s σ H D (I.LH _) hw) (fun _ _ q=>q.FF) fun _ _ z=>False.elim z
end
section
variable{X:Cx} {st:Stmt} {rest:List Stmt} {t u:TS} {e:Expr} {te:TE} {pos:Pos}
def Zh:TS:=fun D a H=>D.nx a H
def QO (t u:TS):TS:=fun D a H=>t {D with nx:=u D} a H
theorem AO:TK X [] Zh:=fun _ _ a H _ I h=>wpAny_execs_nil ⟨a,H,I,h⟩
theorem AF (b:PS X st t) (c:TK X rest u):TK X (st::rest) (QO t u):=by
 intro pins s d H D I h
 refine wpAny_execs_cons (Bo (b pins s d H {D with nx:=u D} I h) fun f g q=>?_)
 cases f with
 |next=>
  obtain⟨a,i,j,q⟩:=q
  exact c pins g a i D j q
 |ret v=>exact q
 |brk=>exact q
 |cont=>exact q
theorem AH (a:PS X st t):TK X [st] t:=by
 intro pins s b H D I h
 refine wpAny_execs_cons (Bo (a pins s b H D I h) fun f c q=>?_)
 cases f with
 |next=>exact wpAny_execs_nil q
 |ret v=>exact q
 |brk=>exact q
 |cont=>exact q
theorem Inv.quiet {pins:List (Addr×Obj)} {σ:St} {H:Hp} {s:Shared} (I:Inv X pins σ H s):interactive X.env=false:=by simp[interactive,I.ok.kind]
def er (te:TE):TS:=fun D a H=>te a H fun _ b=>D.nx a b
theorem Ci (b:PE X e te) (c:swapsWith e none pos.line X.env=pure false:=by rfl):PS X (.Expr e pos) (er te):=by
 intro pins s a H D I h
 exact wpAny_Expr_any (Bo (b pins s a H _ I h) fun v j d=>d.elim fun x f g k i=>⟨a,f,g,i⟩) I.quiet c
def av (te:TE):TS:=fun D a H=>te a H D.rt
theorem AR (b:PE X e te):PS X (.Return (some e) pos) (av te):=by
 intro pins s a H D I h
 exact wpAny_Return_some (Bo (b pins s a H _ I h) fun v j c=>c.elim fun x d f g i=>⟨x,a,d,f,g,i⟩)
def Gg (c:TT) (t u:TS):TS:=fun D a H=>c a H fun b d=>if b=true then t D a d else u D a d
theorem Af {c:Expr} {a b:List Stmt} {g:TT} (m:PT X c g) (n:TK X a t) (o:TK X b u):PS X (.If c a b pos) (Gg g t u):=by
 intro pins s f H D I h
 refine wpAny_If (Bo (m pins s f H _ I h) fun d i p=>p.elim fun j k l=>?_)
 cases d with
 |true=>exact n pins i f j D k l
 |false=>exact o pins i f j D k l
end
abbrev TG:=V->St->Hp->(St->Hp->Prop)->Prop
abbrev tG:=List V->St->Hp->(St->Hp->Prop)->Prop
def PG (X:Cx) (target:Expr) (t:TG):Prop:=
 ∀(pins:List (Addr×Obj)) (s:Shared) (b:St) (H:Hp) (v:V) (u:Value) (Q:St->Hp->Prop),Inv X pins b H s->RelV v u->t v b H Q->
  wpAny (model X.prog X.w) X.A (assign target X.env u) (fun _ d=>∃a c,Inv X pins a c d/\Q a c) X.xe s
abbrev aw:=V->V->V->Hp->(Hp->Prop)->Prop
def ew (X:Cx) (t:aw):Prop:=
 ∀(pins:List (Addr×Obj)) (s:Shared) (a:St) (H:Hp) (o i v:V) (ov b u:Value) (Q:Hp->Prop),Inv X pins a H s->RelV o ov->RelV i b->RelV v u->t o i v H Q->
  wpAny (model X.prog X.w) X.A (setItem ov b u) (fun _ d=>∃c,Inv X pins a c d/\Q c) X.xe s
abbrev wV:=V->V->Hp->VK->Prop
section
variable{X:Cx} {pos:Pos}
def Dm (i:Nat):TG:=fun v a H Q=>Q (a.set i (some v)) H
theorem CP {i:Nat} {x:Str} (a:X.N.Nodup) (b:X.N[i]?=some x) (c:Loc X.env.scope x) (d:X.fn x=true∨X.env.scope.names.lookup x=some .local:=by first|exact .inl rfl|exact .inr rfl|assumption):PG X (.Name x pos) (Dm i):=by
 intro pins s f H v u Q I r h
 exact wpAny_assign_Name (Nu I a b c r (fun g e=>⟨_,H,e,h⟩) d)
inductive a_ (t:TG) (u:tG) (vs:List V) (σ:St) (H:Hp) (Q:(St->Hp->Prop)):Prop
 |mk (v:_) (r:_) (c:vs=v::r) (d:t v σ H fun a b=>u r a b Q):a_ t u vs σ H Q
inductive e_ (K:ACh) (n:Nat) (t:tG) (v:V) (σ:St) (H:Hp) (Q:(St->Hp->Prop)):Prop
 |mk (a:_) (xs:_) (b:v=.ref a) (c:Bj K H a xs) (d:xs.length=n) (e:t xs σ H Q):e_ K n t v σ H Q
def kU (b c:TE) (t:aw):TG:=fun v a H Q=>b a H fun o d=>c a d fun i e=>t o i v e fun f=>Q a f
theorem QP {o i:Expr} {d e:TE} {t:aw} (f:PE X o d) (g:PE X i e) (j:ew X t)
  (k:∀v,assign (.Subscript o i pos) X.env v=(do
   let ov<-holding [v] (eval o X.env)
   let a<-holding [v,ov] (eval i X.env)
   standAt pos
   holding [v,ov,a] (setItem ov a v)
   release [v,ov,a] []):=by intro _;rfl):PG X (.Subscript o i pos) (kU d e t):=by
 intro pins s b H v u Q I r h
 rw[k]
 refine wpAny_bind (wpAny_holding (Bo (f pins s b H _ I h) fun ov l c=>c.elim fun x m n p q=>?_))
 refine wpAny_bind (wpAny_holding (Bo (g pins l b m _ n q) fun a w c=>c.elim fun y z A B C=>?_))
 refine wpAny_bind (wpAny_standAt (wpAny_bind (wpAny_holding (Bo (j pins w b z x y v ov a u _ A p B r C) fun _ G ⟨D,E,F⟩=>?_))))
 exact wpAny_release ⟨b,D,E,F⟩
def a' (b:TE) (g:TG):TS:=fun D a H=>b a H fun x c=>g x a c D.nx
theorem QQ {a e:Expr} {c:TE} {g:TG} (f:PE X e c) (i:PG X a g) (j:swapsWithSole [a] e pos.line X.env=pure false:=by rfl) (hw:swappedStores [a] e X.env=pure none:=by rfl)
  (k:(assignEach [a] X.env).map (·.2)=[assign a X.env]:=by rfl):PS X (.Assign [a] e pos) (a' c g):=by
 intro pins s d H D I h
 refine wpAny_Assign_stores (Bo (f pins s d H _ I h) fun v l m=>m.elim fun x n o p q=>?_) j hw
 rw[k]
 exact Bo (i pins l d n x v _ o p q) fun _ w ⟨b,r,t,u⟩=>⟨b,r,t,u⟩
theorem AX {i:Nat} {x:Str} {e:Expr} {a:TE} {pos':Pos} (b:X.N.Nodup) (c:X.N[i]?=some x) (d:Loc X.env.scope x) (f:PE X e a) (g:swapsWith e (some (.Name x pos')) pos.line X.env=pure false:=by rfl) (j:X.fn x=true∨X.env.scope.names.lookup x=some .local:=by first|exact .inl rfl|exact .inr rfl|assumption):
  PS X (.Assign [.Name x pos'] e pos) (a' a (Dm i)):=by
 intro pins s k H D I h
 refine wpAny_Assign_Name (Bo (f pins s k H _ I h) fun v r l=>l.elim fun y m n o p=>?_) g
 exact Nu n b c d o (fun t q=>⟨_,m,q,p⟩) j
inductive fE (i:Nat) (a:TE) (b:wV) (D:Ends) (σ:St) (H:Hp):Prop
 |mk (x:_) (d:σ[i]?=some (some x)) (e:a σ H fun y c=>b x y c fun z H2=>D.nx (σ.set i (some z)) H2):fE i a b D σ H
inductive kW (f:Int->Int->Int) (x:V) (y:V) (H:Hp) (Q:VK):Prop
 |mk (i:_) (j:_) (a:x=.int i) (b:y=.int j) (c:Q (.int (f i j)) H):kW f x y H Q
end
section
variable{X:Cx} {pos:Pos}
inductive Rj (c:TT) (d:TS) (D:Ends) (σ:St) (H:Hp):Prop
 |mk (W:Nat->St->Hp->Prop) (h:(∃m,W m σ H)) (i:∀m σ H,W m σ H->c σ H fun b e=>if b=true then∃N:St->Hp->Prop,(∀a f,N a f->∃g,g<m/\W g a f)/\d {D with nx:=N,ct:=N,bk:=D.nx} σ e else D.nx σ e):Rj c d D σ H
def Ut (c:TT) (a:TS):TS:=fun D b H=>Rj c a D b H
theorem Nx {c:Expr} {body:List Stmt} {q:TT} {r:TS} (t:PassesOwn (model X.prog X.w) X.A X.env X.xe) (C:PT X c q) (E:TK X body r):PS X (.While c body [] pos) (Ut q r):=by
 intro pins s F H D I h
 obtain⟨W,⟨G,J⟩,turn⟩:=h
 refine wpAny_While (codeAny_whileLoop (fun n K=>∃e u,Inv X pins e u K/\W n e u) ?_ G ⟨F,H,I,J⟩)
 rintro n L ⟨d,x,M,O⟩
 refine wpAny_passesOwn t (Bo (C pins L d x _ M (turn n d x O)) fun b P Q=>Q.elim fun y z i=>?_)
 cases b with
 |true=>
  obtain⟨N,B,i⟩:=i
  rw[if_pos rfl]
  refine wpAny_passesOwn t (Bo (E pins P d y _ z i) fun f R j=>?_)
  cases f with
  |next=>
   obtain⟨a,g,k,l⟩:=j
   obtain⟨m,o,p⟩:=B a g l
   exact⟨m,o,a,g,k,p⟩
  |cont=>
   obtain⟨a,g,k,l⟩:=j
   obtain⟨m,o,p⟩:=B a g l
   exact⟨m,o,a,g,k,p⟩
  |brk=>exact j
  |ret v=>exact j
 |false=>
  rw[if_neg Bool.false_ne_true]
  exact wpAny_execs_nil ⟨d,y,z,i⟩
end
structure It where
 go:Nat->Hp->Prop
 TN:Nat->Hp->V->Hp->Prop
 stop:Nat->Hp->Prop
def H_ (X:Cx) (pins:List (Addr×Obj)) (H:Hp) (b:Addr):Prop:=
 H b=none/\b≠X.env.locals/\b∉X.fs/\(b∈X.ex∨X.s₀.heap.objs.size<=b)/\(∀x c,X.env.cells.lookup x=some c->c≠b)/\∀p∈X.pn++pins,p.1≠b
theorem Inv.QR {X:Cx} {pins:List (Addr×Obj)} {σ:St} {H d:Hp} {s:Shared} {b:Addr} (I:Inv X pins σ H s) (a:s.heap.objs.size<=b) (f:d b=none):H_ X pins d b:=by
 refine⟨f,Nat.ne_of_gt (Nat.lt_of_lt_of_le I.lt a),I.kM a,.inr (Nat.le_trans I.sz a),fun x c e z=>?_,fun p g z=>?_⟩
 ·obtain⟨v,q⟩:=I.cell x c e
  exact absurd (Nat.lt_of_lt_of_le q.lt (by rw[z];exact a)) (Nat.lt_irrefl _)
 ·exact absurd (Nat.lt_of_lt_of_le (Heap.lt_size (I.pin p g).1) (by rw[z];exact a)) (Nat.lt_irrefl _)
structure Turn (P:Program) (w:World) (K:ACh) (tg:Expr) (J:It) (fp:List Addr) (it:Addr) (tn:Nat->Heap->Prop):Prop where
 mem:it∈fp
 obj:∀i h,tn i h->∀b∈fp,∃o,h.get? b=some o/\∀v,o.data≠.cell v
 keep:∀i h h',tn i h->(∀b∈fp,∀o,h.get? b=some o->h'.get? b=some o)->tn i h'
 item:∀(X:Cx),X.prog=P->X.w=w->X.K=K->X.calm=true->∀(i:Nat) (pins:List (Addr×Obj)) (s:Shared) (σ:St) (H:Hp) (E:Value->Shared->Prop),Inv X pins σ H s->(∀b∈fp,H_ X pins H b)->tn i s.heap->J.go i H->
  wpAny (model P w) X.A (pyNext (.ref it)) (fun r s1=>∃u,r=some u/\
   wpAny (model P w) X.A (letOwnedTupleGo tg (.ref it) u) (fun _ s2=>∃x H',Inv X pins σ H' s2/\RelV x u/\J.TN i H x H'/\tn (i+1) s2.heap/\∀b∈fp,H' b=none) E s1) E s
 done:∀(X:Cx),X.prog=P->X.w=w->X.K=K->X.calm=true->∀(i:Nat) (pins:List (Addr×Obj)) (s:Shared) (σ:St) (H:Hp) (E:Value->Shared->Prop),Inv X pins σ H s->(∀b∈fp,H_ X pins H b)->tn i s.heap->J.stop i H->
  wpAny (model P w) X.A (pyNext (.ref it)) (fun r s1=>r=none/\Inv X pins σ H s1) E s
 self:∀(A:Around) (i:Nat) (s:Shared) (Q:Value->Shared->Prop) (E:Value->Shared->Prop),tn i s.heap->Q (.ref it) s->wpAny (model P w) A (pyIter (.ref it)) Q E s
abbrev TI:=St->Hp->(It->Hp->Prop)->Prop
inductive jQ (X:Cx) (pins:List (Addr×Obj)) (σ:St) (g:Expr) (R:It->Hp->Prop) (a:Value) (c:Shared):Prop
 |mk (h:Addr) (i:List Addr) (j:Nat->Heap->Prop) (J:It) (d:Hp) (e:a=.ref h) (I:Inv X pins σ d c) (t:Turn X.prog X.w X.K g J i h j) (z:j 0 c.heap) (f:∀b∈i,H_ X pins d b) (q:R J d):jQ X pins σ g R a c
def PI (X:Cx) (b iter:Expr) (c:TI):Prop:=
 ∀(pins:List (Addr×Obj)) (s:Shared) (a:St) (H:Hp) (R:It->Hp->Prop),Inv X pins a H s->c a H R->
  wpAny (model X.prog X.w) X.A (eval iter X.env) (fun v d=>wpAny (model X.prog X.w) X.A (pyIter v) (jQ X pins a b R) X.xe d) X.xe s
theorem Lc {M:Model} {A:Around} {E:Value->Shared->Prop} {s:Shared} {b:Expr} {c:Addr} {u:Value} {o:Obj} {n:String} {vs:Array Value} {Q:Unit->Shared->Prop} (d:s.heap.get? c=some o) (e:o.cls=.type n) (f:o.data=.fields vs)
  (g:["enumerate","zip","dict_itemiterator","dict_reverseitemiterator","odict_iterator","itertools.zip_longest","itertools.pairwise"].contains n=false) (a:Q () s):wpAny M A (letOwnedTupleGo b (.ref c) u) Q E s:=by
 unfold letOwnedTupleGo
 cases b<;>first
  |exact wpAny_pure a
  |(cases u<;>first
    |exact wpAny_pure a
    |(refine wpAny_bind (wpAny_load d ?_)
      rw[e,f]
      show wpAny M A (if(["enumerate","zip","dict_itemiterator","dict_reverseitemiterator","odict_iterator","itertools.zip_longest","itertools.pairwise"].contains n&&vs[0]?==some (rawInt _))=true then _ else _) Q E s
      rw[if_neg (by intro h;rw[g,Bool.false_and]at h;cases h)]
      exact wpAny_pure a))
def fF (K:ACh) (a:Addr):It:=
 ⟨fun i H=>∃b x,Ah K H a b/\b[i]?=some x,fun i H x c=>c=H/\∀b,Ah K H a b->b[i]?=some x,fun i H=>∃b,Ah K H a b/\b.length<=i⟩
def fG (K:ACh) (a:Addr):It:=
 ⟨fun i H=>∃b x,Bj K H a b/\b[i]?=some x,fun i H x c=>c=H/\∀b,Bj K H a b->b[i]?=some x,fun i H=>∃b,Bj K H a b/\b.length<=i⟩
def dh (lo:Int) (n:Nat):It:=⟨fun i _=>i<n,fun i H x a=>a=H/\x=.int (lo+i),fun i _=>n<=i⟩
theorem TR {P:Program} {w:World} {K:ACh} {tg:Expr} (a it:Addr):Turn P w K tg (fF K a) [it] it (fun i h=>h.IsListIter it a i)where
 mem:=by simp
 obj:=fun i h st b hb=>by
  have e:b=it:=by simpa using hb
  subst e
  obtain⟨o,e,c,d⟩:=st
  exact⟨o,e,fun v z=>by rw[d]at z;cases z⟩
 keep:=fun i h h' st k=>st.at fun o e=>k it (by simp) o e
 item:=by
  intro X hP hw hK hc i pins s σ H E I hf st hg
  subst hP hw hK
  obtain⟨xs,x,hq,hx⟩:=hg
  obtain⟨its,rv,p,hz⟩:=I.list hq
  obtain⟨u,hu,ru⟩:=rv.get hx
  obtain⟨f0,f1,f2,f3,f4,f5⟩:=hf it (by simp)
  refine wpAny_pyNext_list_item st p.isList (x:=u) (by simpa using hu) fun h' Nj sb=>?_
  have I1:Inv X pins σ H {s with heap:=h'}:=I.turned (t':=s.toks) (fun b o hb e=>(sb.2 b hb).trans e) f0 f1 f3 f4 f5
  obtain⟨o,e,c,d⟩:=id Nj
  exact⟨u,rfl,Lc (s:={s with heap:=h'}) e c d (by decide) ⟨x,H,I1,ru,⟨rfl,fun ys hy=>by rw[I.Nw hy hq];exact hx⟩,Nj,fun b hb=>(hf b hb).1⟩⟩
 done:=by
  intro X hP hw hK hc i pins s σ H E I hf st hg
  subst hP hw hK
  obtain⟨xs,hq,hx⟩:=hg
  obtain⟨its,rv,p,hz⟩:=I.list hq
  obtain⟨f0,f1,f2,f3,f4,f5⟩:=hf it (by simp)
  have hl:=rv.length
  exact wpAny_pyNext_list_end (I.ok.hd hc) st p.isList (by simp;lia) fun h' eb=>⟨rfl,I.turned (t':=s.toks) (fun b o hb e=>eb b o hb e) f0 f1 f3 f4 f5⟩
 self:=fun _ _ _ _ _ st h=>wpAny_pyIter_listiter st h
theorem QS {P:Program} {w:World} {K:ACh} {tg:Expr} (a it:Addr):Turn P w K tg (fG K a) [it] it (fun i h=>h.IsTupleIter it a i)where
 mem:=by simp
 obj:=fun i h st b hb=>by
  have e:b=it:=by simpa using hb
  subst e
  obtain⟨o,e,c,d⟩:=st
  exact⟨o,e,fun v z=>by rw[d]at z;cases z⟩
 keep:=fun i h h' st k=>st.at fun o e=>k it (by simp) o e
 item:=by
  intro X hP hw hK hc i pins s σ H E I hf st hg
  subst hP hw hK
  obtain⟨xs,x,hq,hx⟩:=hg
  obtain⟨its,rv,p,hz⟩:=I.tuple hq
  obtain⟨u,hu,ru⟩:=rv.get hx
  obtain⟨f0,f1,f2,f3,f4,f5⟩:=hf it (by simp)
  refine wpAny_pyNext_tuple_item st (show s.heap.IsTuple a its.toArray from p) (x:=u) (by simpa using hu) fun h' Nj sb=>?_
  have I1:Inv X pins σ H {s with heap:=h'}:=I.turned (t':=s.toks) (fun b o hb e=>(sb.2 b hb).trans e) f0 f1 f3 f4 f5
  obtain⟨o,e,c,d⟩:=id Nj
  exact⟨u,rfl,Lc (s:={s with heap:=h'}) e c d (by decide) ⟨x,H,I1,ru,⟨rfl,fun ys hy=>by rw[I.TL hy hq];exact hx⟩,Nj,fun b hb=>(hf b hb).1⟩⟩
 done:=by
  intro X hP hw hK hc i pins s σ H E I hf st hg
  subst hP hw hK
  obtain⟨xs,hq,hx⟩:=hg
  obtain⟨its,rv,p,hz⟩:=I.tuple hq
  obtain⟨f0,f1,f2,f3,f4,f5⟩:=hf it (by simp)
  have hl:=rv.length
  exact wpAny_pyNext_tuple_end (I.ok.hd hc) st (show s.heap.IsTuple a its.toArray from p) (by simp;lia) fun h' eb=>⟨rfl,I.turned (t':=s.toks) (fun b o hb e=>eb b o hb e) f0 f1 f3 f4 f5⟩
 self:=fun _ _ _ _ _ st h=>wpAny_pyIter_tupleiter st h
theorem QT {P:Program} {w:World} {K:ACh} {tg:Expr} (it:Addr) (lo:Int) (n:Nat):Turn P w K tg (dh lo n) [it] it (fun i h=>IsRangeIter h it (lo+(i:Nat)*1) ((n:Int)-(i:Nat)) 1)where
 mem:=by simp
 obj:=fun i h st b hb=>by
  have e:b=it:=by simpa using hb
  subst e
  exact⟨_,st,fun v z=>by
   have z':Data.fields _=Data.cell v:=z
   cases z'⟩
 keep:=fun i h h' st k=>k it (by simp) _ st
 item:=by
  intro X hP hw hK hc i pins s σ H E I hf st hg
  subst hP hw hK
  obtain⟨f0,f1,f2,f3,f4,f5⟩:=hf it (by simp)
  have W:=Walks.range (prog:=X.prog) (w:=X.w) (I.ok.hd hc) it lo 1 n
  refine W.item i s _ _ hg st fun v h' tk hv Nj kk=>?_
  obtain⟨t,rfl⟩:=hv
  have I1:Inv X pins σ H {s with heap:=h',toks:=tk}:=I.turned (fun b o hb e=>kk b o (by simpa using hb) e) f0 f1 f3 f4 f5
  refine⟨_,rfl,Lc (s:={s with heap:=h',toks:=tk}) (n:="range_iterator") Nj rfl rfl (by decide) ⟨.int (lo+i),H,I1,⟨t,?_⟩,⟨rfl,rfl⟩,Nj,fun b hb=>(hf b hb).1⟩⟩
  rw[Int.mul_one]
 done:=by
  intro X hP hw hK hc i pins s σ H E I hf st hg
  subst hP hw hK
  obtain⟨f0,f1,f2,f3,f4,f5⟩:=hf it (by simp)
  exact wpAny_pyNext_range_end (I.ok.hd hc) st (by have:n<=i:=hg;lia) fun h' eb=>⟨rfl,I.turned (t':=s.toks) (fun b o hb e=>eb b o hb e) f0 f1 f3 f4 f5⟩
 self:=fun _ _ _ _ _ st h=>wpAny_pyIter_rangeiter st h
section
variable{X:Cx} {tg:Expr}
def fH (K:ACh) (c:TE):TI:=fun d H R=>c d H fun x b=>∃a,x=.ref a/\(∃e,Ah K b a e)/\R (fF K a) b
def kX (K:ACh) (c:TE):TI:=fun d H R=>c d H fun x b=>∃a,x=.ref a/\(∃e,Bj K b a e)/\R (fG K a) b
theorem Br {l:Expr} {f:TE} (hl:PE X l f):PI X tg l (fH X.K f):=by
 intro pins s g H R I h
 refine Bo (hl pins s g H _ I h) fun v c i=>i.elim fun x j d k m=>?_
 obtain⟨a,e,⟨u,n⟩,q⟩:=m
 subst e
 cases k
 obtain⟨r,w,p,y⟩:=d.list n
 refine wpAny_pyIter_list p.isList ?_
 refine⟨c.heap.objs.size,[c.heap.objs.size],_,_,j,rfl,d.kept (t':=c.toks) fun b o e=>Heap.get?_push_of_some _ e,TR a _,⟨_,Heap.get?_push_size _ rfl,rfl,rfl⟩,fun b t=>?_,q⟩
 have e:b=c.heap.objs.size:=by simpa using t
 subst e
 exact d.QR (Nat.le_refl _) (d.BO.fresh (Nat.le_refl _))
theorem Uu {l:Expr} {g:TE} (hl:PE X l g):PI X tg l (kX X.K g):=by
 intro pins s i H R I h
 refine Bo (hl pins s i H _ I h) fun v c j=>j.elim fun x k d m n=>?_
 obtain⟨a,e,⟨u,r⟩,q⟩:=n
 subst e
 cases m
 obtain⟨f,w,p,y⟩:=d.tuple r
 refine wpAny_pyIter_tuple (show c.heap.IsTuple a f.toArray from p) ?_
 refine⟨c.heap.objs.size,[c.heap.objs.size],_,_,k,rfl,d.kept (t':=c.toks) fun b o e=>Heap.get?_push_of_some _ e,QS a _,⟨_,Heap.get?_push_size _ rfl,rfl,rfl⟩,fun b t=>?_,q⟩
 have e:b=c.heap.objs.size:=by simpa using t
 subst e
 exact d.QR (Nat.le_refl _) (d.BO.fresh (Nat.le_refl _))
theorem Uv {pins:List (Addr×Obj)} {σ:St} {H:Hp} {s:Shared} {R:It->Hp->Prop} {E:Value->Shared->Prop} {lo a:Int} {t u v:Tok} {tk:Nat} (I:Inv X pins σ H s) (d: -(2 ^ 62)<=lo) (f:lo<2 ^ 62) (g: -(2 ^ 62)<=a) (h4:a<2 ^ 62)
  (q:R (dh lo (a-lo).toNat) H):wpAny (model X.prog X.w) X.A (pyIter (.ref s.heap.objs.size)) (jQ X pins σ tg R) E {s with heap:=s.heap.push {cls:=.type "range",data:=.fields #[.int lo t,.int a u,.int 1 v]},toks:=tk}:=by
 refine wpAny_pyIter_range (IsRange.new ..) (small_one d f g h4) ?_
 have c:Inv X pins σ H {s with heap:=s.heap.push {cls:=.type "range",data:=.fields #[.int lo t,.int a u,.int 1 v]},toks:=tk}:=I.kept fun b o e=>Heap.get?_push_of_some _ e
 refine⟨(s.heap.push {cls:=.type "range",data:=.fields #[.int lo t,.int a u,.int 1 v]}).objs.size,[(s.heap.push {cls:=.type "range",data:=.fields #[.int lo t,.int a u,.int 1 v]}).objs.size],_,_,H,rfl,
  c.kept (t':=tk) fun b o e=>Heap.get?_push_of_some _ e,QT _ lo (a-lo).toNat,?_,fun b h=>?_,q⟩
 ·have i:lo+((0:Nat):Int)*1=lo:=by simp
  have j:(((a-lo).toNat:Nat):Int)-((0:Nat):Int)=Builtin.Range.rangeSize lo a 1:=by rw[rangeSize_one];split<;>lia
  show IsRangeIter _ _ (lo+((0:Nat):Int)*1) ((((a-lo).toNat:Nat):Int)-((0:Nat):Int)) 1
  rw[i,j]
  exact Heap.get?_push_size _ rfl
 ·have e:b=(s.heap.push {cls:=.type "range",data:=.fields #[.int lo t,.int a u,.int 1 v]}).objs.size:=by simpa using h
  subst e
  exact c.QR (Nat.le_refl _) (c.BO.fresh (Nat.le_refl _))
def Zi (a:TA):TI:=fun b H R=>a b H fun c d=>∃j:Int,c=[.int j]/\ -(2 ^ 62)<=j/\j<2 ^ 62/\R (dh 0 j.toNat) d
theorem BZ {a:Expr} {c:TA} {p pos:Pos} (d:Gl X "range") (f:X.mg "range"=none) (g:PA X [a] c) (i:starEach [a] X.env=[(false,eval a X.env)]:=by rfl):PI X tg (.Call (.Name "range" p) [a] [] pos) (Zi c):=by
 intro pins s k H R I h
 refine Call_ (Ec I d f boot_range (PyProof.Rows.callWith_type1 (Bo (g pos pins s k H _ I h) fun v w l=>l.elim fun x y m n b=>?_) i rfl))
 obtain⟨j,e,b,o,q⟩:=b
 subst e
 cases n with
 |cons r u=>
  cases u
  obtain⟨t,rfl⟩:=r
  exact call_range_1 (Uv m (by lia) (by lia) b o (by simpa using q))
def kY (f:TI) (g:TG) (h:TS):TS:=fun D a H=>f a H fun J j=>∃W:Nat->Nat->St->Hp->Prop,(∃m,W 0 m a j)/\∀i m a H,W i m a H->
 (J.stop i H/\D.nx a H)∨(J.go i H/\∃N:St->Hp->Prop,(∀b c,N b c->∃e,e<m/\W (i+1) e b c)/\∀x c,J.TN i H x c->g x a c fun d k=>h {D with nx:=N,ct:=N,bk:=D.nx} d k)
def Jd (a:List Addr) (h:Heap):List (Addr×Obj):=a.filterMap fun b=>(h.get? b).map fun o=>(b,o)
theorem Ee {a:List Addr} {h:Heap} {b:Addr} {o:Obj} (c:b∈a) (e:h.get? b=some o):(b,o)∈Jd a h:=List.mem_filterMap.mpr ⟨b,c,by rw[e];rfl⟩
theorem TU {a:List Addr} {h:Heap} {p:Addr×Obj} (c:p∈Jd a h):p.1∈a/\h.get? p.1=some p.2:=by
 obtain⟨b,d,e⟩:=List.mem_filterMap.mp c
 cases q:h.get? b with
 |none=>rw[q]at e;cases e
 |some o=>
  rw[q]at e
  have f:(b,o)=p:=ACf e
  subst f
  exact⟨d,q⟩
theorem Inv.pinned {pins:List (Addr×Obj)} {σ:St} {H:Hp} {s:Shared} {a:List Addr} (I:Inv X pins σ H s) (g:∀b∈a,H_ X pins H b) (h:∀b∈a,∃o,s.heap.get? b=some o/\∀v,o.data≠.cell v):Inv X (pins++Jd a s.heap) σ H s:=
 I.Rh fun p i=>(List.mem_append.mp i).elim (fun z=>I.pin p (List.mem_append_right _ z)) fun z=>by
  obtain⟨c,e⟩:=TU z
  obtain⟨j,k,l,_⟩:=g p.1 c
  obtain⟨o,f,d⟩:=h p.1 c
  rw[e]at f;cases f
  exact⟨e,j,k,l,d⟩
theorem Inv.FG {pins a:List (Addr×Obj)} {σ:St} {H:Hp} {s:Shared} (I:Inv X (pins++a) σ H s):Inv X pins σ H s:=I.Rh fun p b=>I.pin p (List.mem_append_right _ (List.mem_append_left _ b))
theorem DG {iter:Expr} {body:List Stmt} {S:TI} {g:TG} {U:TS} {pos:Pos} (B:PassesOwn (model X.prog X.w) X.A X.env X.xe) (V:X.calm=true) (hi:PI X tg iter S) (hg:PG X tg g) (c:TK X body U)
  (hs:∀x,foldedSetIterable iter X.env x=pure x:=by intro _;rfl):PS X (.For tg iter body [] pos) (kY S g U):=by
 intro pins s Y H D I h
 refine wpAny_For (Bo (hi pins s Y H _ I h) fun v s1 h1=>Bo h1 fun itv s2 h2=>?_) hs
 obtain⟨it,C,Z,J,H2,e,I2,T,L,f2,W,⟨m0,w0⟩,turn⟩:=h2
 subst e
 have j:∀{t:Hp},(∀b∈C,t b=none)->∀b∈C,H_ X pins t b:=fun hn b c=>⟨hn b c,(f2 b c).2⟩
 refine codeAny_forLoop_any (fun n s'=>∃i k t,Inv X pins k t s'/\Z i s'.heap/\(∀b∈C,t b=none)/\W i n k t) ?_ m0 ⟨0,Y,H2,I2,L,fun b c=>(f2 b c).1,w0⟩
 rintro n s3 ⟨i,l,K,I3,E,F,w3⟩
 rcases turn i n l K w3 with⟨stop,qn⟩|⟨go,N,hN,step⟩
 ·refine wpAny_passesOwn B (Bo (T.done X rfl rfl rfl V i pins s3 l K X.xe I3 (j F) E stop) fun r s4 ⟨M,I4⟩=>?_)
  subst M
  exact wpAny_execs_nil ⟨l,K,I4,qn⟩
 ·refine wpAny_passesOwn B (Bo (T.item X rfl rfl rfl V i pins s3 l K X.xe I3 (j F) E go) fun r s4 ⟨u,M,h4⟩=>?_)
  subst M
  refine wpAny_passesOwn B (Bo h4 fun _ s5 ⟨x,H5,I5,r5,y5,z,O⟩=>?_)
  have P:=I5.pinned (j O) (T.obj _ _ z)
  refine wpAny_passesOwn B (Bo (hg _ s5 l H5 x u _ P r5 (step x H5 y5)) fun _ s6 ⟨Q,H6,I6,q6⟩=>?_)
  refine wpAny_passesOwn B (Bo (c _ s6 Q H6 _ I6 q6) fun f R y=>?_)
  have again:∀{a:St} {p:Hp},Inv X (pins++Jd C s5.heap) a p R->N a p->∃m,m<n/\∃i k t,Inv X pins k t R/\Z i R.heap/\(∀b∈C,t b=none)/\W i m k t:=fun{a p} q G=>by
   obtain⟨m',hm,w7⟩:=hN a p G
   refine⟨m',hm,i+1,a,p,q.FG,T.keep _ _ _ z fun b c o e=>(q.pin (b,o) (List.mem_append_right _ (List.mem_append_right _ (Ee c e)))).1,fun b c=>?_,w7⟩
   obtain⟨o,e,d⟩:=T.obj _ _ z b c
   exact(q.pin (b,o) (List.mem_append_right _ (List.mem_append_right _ (Ee c e)))).2.1
  cases f with
  |next=>obtain⟨a,p,q,G⟩:=y;exact again q G
  |cont=>obtain⟨a,p,q,G⟩:=y;exact again q G
  |brk=>obtain⟨a,p,q,y⟩:=y;exact⟨a,p,q.FG,y⟩
  |ret v=>obtain⟨x7,a,p,q,r7,y⟩:=y;exact⟨x7,a,p,q.FG,r7,y⟩
end
theorem FH {K:ACh} {a:Addr} {xs:List V} {g:TG} {h:TS} {D:Ends} {σ:St} {H:Hp} (Pv:Nat->St->Hp->Prop) (k:Pv 0 σ H) (hl:∀i σ H,i<=xs.length->Pv i σ H->Ah K H a xs)
  (l:∀i x σ H,xs[i]?=some x->Pv i σ H->g x σ H fun b H2=>h {D with nx:=Pv (i+1),ct:=Pv (i+1),bk:=D.nx} b H2) (n:∀σ H,Pv xs.length σ H->D.nx σ H):
  ∃W:Nat->Nat->St->Hp->Prop,(∃m,W 0 m σ H)/\∀i m σ H,W i m σ H->
   ((fF K a).stop i H/\D.nx σ H)∨((fF K a).go i H/\∃N:St->Hp->Prop,(∀c d,N c d->∃j,j<m/\W (i+1) j c d)/\∀x d,(fF K a).TN i H x d->g x σ d fun b H2=>h {D with nx:=N,ct:=N,bk:=D.nx} b H2):=by
 refine⟨fun i m σ H=>m=xs.length-i/\i<=xs.length/\Pv i σ H,⟨xs.length,by simp,Nat.zero_le _,k⟩,?_⟩
 rintro i m σ H ⟨rfl,o,p⟩
 have q:=hl i σ H o p
 by_cases f:i<xs.length
 ·refine .inr ⟨⟨xs,xs[i],q,by simp[f]⟩,Pv (i+1),fun c d r=>⟨xs.length-(i+1),by lia,rfl,f,r⟩,fun x d y=>?_⟩
  obtain⟨e,y⟩:=y
  subst e
  exact l i x σ _ (y xs q) p
 ·have e:i=xs.length:=by lia
  subst e
  exact .inl ⟨⟨xs,q,Nat.le_refl _⟩,n σ H p⟩
theorem Xt {K:ACh} {a:Addr} {xs:List V} {g:TG} {h:TS} {D:Ends} {σ:St} {H:Hp} (Pv:Nat->St->Hp->Prop) (k:Pv 0 σ H) (hl:∀i σ H,i<=xs.length->Pv i σ H->Bj K H a xs)
  (l:∀i x σ H,xs[i]?=some x->Pv i σ H->g x σ H fun b H2=>h {D with nx:=Pv (i+1),ct:=Pv (i+1),bk:=D.nx} b H2) (n:∀σ H,Pv xs.length σ H->D.nx σ H):
  ∃W:Nat->Nat->St->Hp->Prop,(∃m,W 0 m σ H)/\∀i m σ H,W i m σ H->
   ((fG K a).stop i H/\D.nx σ H)∨((fG K a).go i H/\∃N:St->Hp->Prop,(∀c d,N c d->∃j,j<m/\W (i+1) j c d)/\∀x d,(fG K a).TN i H x d->g x σ d fun b H2=>h {D with nx:=N,ct:=N,bk:=D.nx} b H2):=by
 refine⟨fun i m σ H=>m=xs.length-i/\i<=xs.length/\Pv i σ H,⟨xs.length,by simp,Nat.zero_le _,k⟩,?_⟩
 rintro i m σ H ⟨rfl,o,p⟩
 have q:=hl i σ H o p
 by_cases f:i<xs.length
 ·refine .inr ⟨⟨xs,xs[i],q,by simp[f]⟩,Pv (i+1),fun c d r=>⟨xs.length-(i+1),by lia,rfl,f,r⟩,fun x d y=>?_⟩
  obtain⟨e,y⟩:=y
  subst e
  exact l i x σ _ (y xs q) p
 ·have e:i=xs.length:=by lia
  subst e
  exact .inl ⟨⟨xs,q,Nat.le_refl _⟩,n σ H p⟩
theorem DN {lo:Int} {n:Nat} {g:TG} {f:TS} {D:Ends} {σ:St} {H:Hp} (Pv:Nat->St->Hp->Prop) (j:Pv 0 σ H)
  (k:∀i σ H,i<n->Pv i σ H->g (.int (lo+i)) σ H fun a H2=>f {D with nx:=Pv (i+1),ct:=Pv (i+1),bk:=D.nx} a H2) (l:∀σ H,Pv n σ H->D.nx σ H):
  ∃W:Nat->Nat->St->Hp->Prop,(∃m,W 0 m σ H)/\∀i m σ H,W i m σ H->
   ((dh lo n).stop i H/\D.nx σ H)∨((dh lo n).go i H/\∃N:St->Hp->Prop,(∀b c,N b c->∃h,h<m/\W (i+1) h b c)/\∀x c,(dh lo n).TN i H x c->g x σ c fun a H2=>f {D with nx:=N,ct:=N,bk:=D.nx} a H2):=by
 refine⟨fun i m σ H=>m=n-i/\i<=n/\Pv i σ H,⟨n,by simp,Nat.zero_le _,j⟩,?_⟩
 rintro i m σ H ⟨rfl,q,p⟩
 by_cases d:i<n
 ·refine .inr ⟨d,Pv (i+1),fun b c o=>⟨n-(i+1),by lia,rfl,d,o⟩,fun x c y=>?_⟩
  obtain⟨e,y⟩:=y
  subst e y
  exact k i σ _ d p
 ·have e:i=n:=by lia
  subst e
  exact .inl ⟨Nat.le_refl _,l σ H p⟩
abbrev R2:=V->V->Hp->VK->Prop
def Dy (X:Cx) (f:Value->Value->Sem Value) (r:R2):Prop:=
 ∀(pins:List (Addr×Obj)) (s:Shared) (a:St) (H:Hp) (x y:V) (v u:Value) (Q:VK),Inv X pins a H s->RelV x v->RelV y u->r x y H Q->
  wpAny (model X.prog X.w) X.A (f v u) (EP X pins a Q) X.xe s
def kZ (X:Cx) (f:Value->Sem Value) (r:V->Hp->VK->Prop):Prop:=
 ∀(pins:List (Addr×Obj)) (s:Shared) (a:St) (H:Hp) (x:V) (v:Value) (Q:VK),Inv X pins a H s->RelV x v->r x H Q->
  wpAny (model X.prog X.w) X.A (f v) (EP X pins a Q) X.xe s
def BJ (X:Cx) (f:Value) (r:List V->Hp->VK->Prop):Prop:=
 ∀(pins:List (Addr×Obj)) (s:Shared) (a:St) (H:Hp) (b:List V) (c:List Value) (Q:VK),Inv X pins a H s->Vals b c->r b H Q->
  wpAny (model X.prog X.w) X.A (call f c) (EP X pins a Q) X.xe s
def ka (X:Cx) (r:V->Hp->(Bool->Hp->Prop)->Prop):Prop:=
 ∀(pins:List (Addr×Obj)) (s:Shared) (a:St) (H:Hp) (x:V) (v:Value) (Q:Bool->Hp->Prop),Inv X pins a H s->RelV x v->r x H Q->
  wpAny (model X.prog X.w) X.A (truthy v) (TP X pins a Q) X.xe s
def Xu (r:R2) (b c:TE):TE:=fun a H Q=>b a H fun x d=>c a d fun y e=>r x y e Q
def wW (r:V->Hp->VK->Prop) (a:TE):TE:=fun b H Q=>a b H fun x c=>r x c Q
inductive tH (C:Int->Int->Prop) (g:Int->Int->V) (x:V) (y:V) (H:Hp) (Q:VK):Prop
 |mk (i:_) (j:_) (a:x=.int i) (b:y=.int j) (c:C i j) (d:Q (g i j) H):tH C g x y H Q
def rI (C:Int->Int->Prop) (g:Int->Int->V):R2:=fun x y H Q=>tH C g x y H Q
inductive fI (g:Int->Int->V) (x:V) (y:V) (H:Hp) (Q:VK):Prop
 |mk (i:_) (j:_) (a:x=.int i) (b:y=.int j) (c:Q (g i j) H):fI g x y H Q
def bA (g:Int->Int->V):R2:=fun x y H Q=>fI g x y H Q
inductive tJ (g:Int->V) (x:V) (H:Hp) (Q:VK):Prop
 |mk (i:_) (a:x=.int i) (b:Q (g i) H):tJ g x H Q
def rU (g:Int->V):V->Hp->VK->Prop:=fun x H Q=>tJ g x H Q
section
variable{X:Cx} {a b c:Expr} {ta tb tc:TE} {pos:Pos}
theorem bB (k:PE X a ta) (l:PE X b tb) {pins:List (Addr×Obj)} {s:Shared} {σ:St} {H:Hp} {R:V->V->Hp->Prop} (I:Inv X pins σ H s)
  (h:ta σ H fun x i=>tb σ i fun y H2=>R x y H2) {Q:Value->Shared->Prop} {f:Value->Value->Sem Value}
  (m:∀v u g x y H2,Inv X pins σ H2 g->RelV x v->RelV y u->R x y H2->wpAny (model X.prog X.w) X.A (f v u) Q X.xe g):
  wpAny (model X.prog X.w) X.A (eval a X.env) (fun v d=>wpAny (model X.prog X.w) X.A (eval b X.env) (fun u e=>wpAny (model X.prog X.w) X.A (f v u) Q X.xe e) X.xe d) X.xe s:=by
 refine Bo (k pins s σ H _ I h) fun v n j=>j.elim fun x i o p q=>?_
 refine Bo (l pins n σ i _ o q) fun u g j=>j.elim fun y H2 r t z=>?_
 exact m v u g x y H2 r p t z
theorem AN {op:Operator} {r:R2} (d:Dy X (binaryOp op) r) (e:PE X a ta) (f:PE X b tb):PE X (.BinOp a op b pos) (Xu r ta tb):=by
 intro pins s g H Q I h
 exact wpAny_BinOp (bB e f I h fun v u i x y j k l m q=>d pins i g j x y v u Q k l m q)
theorem Rk {op:UnaryOp} {r:V->Hp->VK->Prop} (e:kZ X (unaryOp op) r) (f:PE X a ta):PE X (.UnaryOp op a pos) (wW r ta):=by
 intro pins s d H Q I h
 exact UnaryOp_ (Bo (f pins s d H _ I h) fun v g i=>i.elim fun x j k l m=>e pins g d j x v Q k l m)
theorem jR {f:Value->Value->Sem Value} {C:Int->Int->Prop} {g:Int->Int->Int}
  (rule:∀(i j:Int) (t u:Tok) (s:Shared) (Q:Value->Shared->Prop) (E:Value->Shared->Prop),C i j->Q (.int (g i j) s.toks) {s with toks:=s.toks+1}->wpAny (model X.prog X.w) X.A (f (.int i t) (.int j u)) Q E s):
  Dy X f (rI C fun i j=>.int (g i j)):=by
 intro pins s m H x y v u Q I d e h
 obtain⟨i,j,rfl,rfl,k,q⟩:=h
 obtain⟨t,rfl⟩:=d
 obtain⟨l,rfl⟩:=e
 exact rule i j t l s _ _ k ⟨.int (g i j),H,I.tok _,⟨_,rfl⟩,q⟩
theorem fK {f:Value->Value->Sem Value} {g:Int->Int->Int}
  (rule:∀(i j:Int) (t u:Tok) (s:Shared) (Q:Value->Shared->Prop) (E:Value->Shared->Prop),Q (.int (g i j) s.toks) {s with toks:=s.toks+1}->wpAny (model X.prog X.w) X.A (f (.int i t) (.int j u)) Q E s):
  Dy X f (bA fun i j=>.int (g i j)):=by
 intro pins s l H x y v u Q I d e h
 obtain⟨i,j,rfl,rfl,q⟩:=h
 obtain⟨t,rfl⟩:=d
 obtain⟨k,rfl⟩:=e
 exact rule i j t k s _ _ ⟨.int (g i j),H,I.tok _,⟨_,rfl⟩,q⟩
theorem bC {f:Value->Value->Sem Value} {g:Int->Int->Bool}
  (rule:∀(i j:Int) (t u:Tok) (s:Shared) (Q:Value->Shared->Prop) (E:Value->Shared->Prop),Q (.bool (g i j)) s->wpAny (model X.prog X.w) X.A (f (.int i t) (.int j u)) Q E s):
  Dy X f (bA fun i j=>.bl (g i j)):=by
 intro pins s l H x y v u Q I d e h
 obtain⟨i,j,rfl,rfl,q⟩:=h
 obtain⟨t,rfl⟩:=d
 obtain⟨k,rfl⟩:=e
 exact rule i j t k s _ _ ⟨.bl (g i j),H,I,rfl,q⟩
def fO (i j:Int):Prop:=0<j/\j<1073741824
def kb (i j:Int):Prop:=0<=j/\j<=1000000/\i.natAbs<2 ^ 64
def bD (i j:Int):Prop:=(-(2 ^ 64)<i/\i<2 ^ 64)∨(-(2 ^ 64)<j/\j<2 ^ 64)
theorem bD.ok {i j:Int} (h:bD i j):IntMulOk i j:=by
 rcases h with⟨d,e⟩|⟨d,e⟩
 ·exact .of_left (intBits_le_64 d e)
 ·exact .of_right (intBits_le_64 d e)
theorem Bp:Dy X (binaryOp .Add) (bA fun i j=>.int (i+j)):=fK fun _ _ _ _ _ _ _ q=>add_int q
theorem IA:Dy X (binaryOp .Sub) (bA fun i j=>.int (i-j)):=fK fun _ _ _ _ _ _ _ q=>sub_int q
theorem FI:Dy X (binaryOp .Mult) (rI bD fun i j=>.int (i*j)):=jR fun _ _ _ _ _ _ _ d q=>mul_int q d.ok
theorem Bc:Dy X (binaryOp .FloorDiv) (rI fO fun i j=>.int (i/j)):=jR fun i j _ _ _ _ _ d q=>by
 have e:(0:Int)<j:=d.1
 have f:j<1073741824:=d.2
 exact floordiv_int (by lia) (by rw[Int.fdiv_eq_ediv_of_nonneg i (by lia)];exact q) (.inl (PyProof.noPylong_small (by lia)))
theorem Aq:Dy X (binaryOp .Mod) (rI (fun _ j=>0<j) fun i j=>.int (i % j)):=jR fun i j _ _ _ _ _ d q=>by
 have e:(0:Int)<j:=d
 exact mod_int' (by lia) (by rw[Int.fmod_eq_emod_of_nonneg i (by lia)];exact q)
theorem QU:Dy X (binaryOp .Pow) (rI kb fun i j=>.int (i ^ j.toNat)):=jR fun _ _ _ _ _ _ _ d q=>pow_int_small d.1 d.2.1 d.2.2 q
theorem wX {f:Value->Sem Value} {g:Int->Int}
  (rule:∀(i:Int) (t:Tok) (s:Shared) (Q:Value->Shared->Prop) (E:Value->Shared->Prop),Q (.int (g i) s.toks) {s with toks:=s.toks+1}->wpAny (model X.prog X.w) X.A (f (.int i t)) Q E s):
  kZ X f (rU fun i=>.int (g i)):=by
 intro pins s e H x v Q I d h
 obtain⟨i,rfl,q⟩:=h
 obtain⟨t,rfl⟩:=d
 exact rule i t s _ _ ⟨.int (g i),H,I.tok _,⟨_,rfl⟩,q⟩
theorem Mb:kZ X (unaryOp .USub) (rU fun i=>.int (-i)):=wX fun _ _ _ _ _ q=>neg_int q
inductive Mc (x:V) (y:V) (H:Hp) (Q:VK):Prop
 |mk (i:_) (k:_) (d:x=.int i) (e:y=.bl k) (f:Q (.int (i+b2i k)) H):Mc x y H Q
end
def fP:V->V->Bool
 | .BV,.BV=>true| .BV,.int _=>true| .int _,.BV=>true| .BV,.bl _=>true| .bl _,.BV=>true| .BV,.str _=>true| .str _,.BV=>true
 | .int _,.int _=>true| .bl _,.bl _=>true| .str _,.str _=>true| .Nr _,.Nr _=>true
 | .int _,.str _=>true| .str _,.int _=>true| .bl _,.str _=>true| .str _,.bl _=>true
 |_,_=>false
def wY:R2:=fun x y H Q=>fP x y=true/\Q (.bl (decide (x=y))) H
def wZ:R2:=fun x y H Q=>fP x y=true/\Q (.bl (!decide (x=y))) H
theorem Rm {i j:Int}:decide (V.int i=V.int j)=(i==j):=by
 rw[Bool.eq_iff_iff]
 simp
theorem Uw {i j:Bool}:decide (V.bl i=V.bl j)=(i==j):=by
 rw[Bool.eq_iff_iff]
 simp
theorem Rn {i j:Str}:decide (V.str i=V.str j)=(i==j):=by
 rw[Bool.eq_iff_iff]
 simp
theorem Ro {i j:Array UInt8}:decide (V.Nr i=V.Nr j)=(i.toList==j.toList):=by
 rw[Bool.eq_iff_iff]
 cases i
 cases j
 simp
section
variable{X:Cx} {a b c:Expr} {ta tb tc:TE} {pos:Pos}
theorem BL {pins:List (Addr×Obj)} {σ:St} {H:Hp} {s:Shared} {Q:VK} {k d:Bool} (I:Inv X pins σ H s) (q:Q (.bl k) H) (e:k=d):EP X pins σ Q (.bool d) s:=by
 subst e
 exact⟨.bl k,H,I,rfl,q⟩
theorem Bk:Dy X (compareOp .Eq) wY:=by
 intro pins s k H x y v u Q I g d h
 obtain⟨f,q⟩:=h
 cases x with
 |BV=>
  cases g
  cases y with
  |BV=>cases d;exact PySem.EqNone.eq_none_none (BL I q (by simp))
  |bl j=>cases d;exact PySem.EqNone.eq_none_bool (BL I q (by simp))
  |int j=>obtain⟨e,rfl⟩:=d;exact PySem.EqNone.eq_none_int (BL I q (by simp))
  |str j=>obtain⟨e,rfl⟩:=d;exact PySem.EqNone.eq_none_str (BL I q (by simp))
  |_=>exact absurd (show false=true from f) Bool.false_ne_true
 |bl i=>
  cases g
  cases y with
  |BV=>cases d;exact PySem.EqNone.eq_bool_none (BL I q (by simp))
  |bl j=>cases d;exact eq_bool (BL I q Uw)
  |str j=>obtain⟨e,rfl⟩:=d;exact PySem.EqMixed.eq_bool_str (BL I q (by simp))
  |_=>exact absurd (show false=true from f) Bool.false_ne_true
 |int i=>
  obtain⟨t,rfl⟩:=g
  cases y with
  |BV=>cases d;exact PySem.EqNone.eq_int_none (BL I q (by simp))
  |int j=>obtain⟨e,rfl⟩:=d;exact eq_int (BL I q Rm)
  |str j=>obtain⟨e,rfl⟩:=d;exact PySem.EqMixed.eq_int_str (BL I q (by simp))
  |_=>exact absurd (show false=true from f) Bool.false_ne_true
 |str i=>
  obtain⟨t,rfl⟩:=g
  cases y with
  |BV=>cases d;exact PySem.EqNone.eq_str_none (BL I q (by simp))
  |bl j=>cases d;exact PySem.EqMixed.eq_str_bool (BL I q (by simp))
  |int j=>obtain⟨e,rfl⟩:=d;exact PySem.EqMixed.eq_str_int (BL I q (by simp))
  |str j=>obtain⟨e,rfl⟩:=d;exact eq_str (BL I q Rn)
  |_=>exact absurd (show false=true from f) Bool.false_ne_true
 |Nr i=>
  obtain⟨t,rfl⟩:=g
  cases y with
  |Nr j=>obtain⟨e,rfl⟩:=d;exact PySem.W.eq_bytes (BL I q Ro)
  |_=>exact absurd (show false=true from f) Bool.false_ne_true
 |_=>cases y<;>exact absurd (show false=true from f) Bool.false_ne_true
theorem Ux:Dy X (compareOp .NotEq) wZ:=by
 intro pins s k H x y v u Q I g d h
 obtain⟨f,q⟩:=h
 cases x with
 |BV=>
  cases g
  cases y with
  |BV=>cases d;exact PySem.EqNone.ne_none_none (BL I q (by simp))
  |bl j=>cases d;exact PySem.EqNone.ne_none_bool (BL I q (by simp))
  |int j=>obtain⟨e,rfl⟩:=d;exact PySem.EqNone.ne_none_int (BL I q (by simp))
  |str j=>obtain⟨e,rfl⟩:=d;exact PySem.EqNone.ne_none_str (BL I q (by simp))
  |_=>exact absurd (show false=true from f) Bool.false_ne_true
 |bl i=>
  cases g
  cases y with
  |BV=>cases d;exact PySem.EqNone.ne_bool_none (BL I q (by simp))
  |bl j=>cases d;exact ne_bool (BL I q (congrArg not Uw))
  |str j=>obtain⟨e,rfl⟩:=d;exact PySem.EqMixed.ne_bool_str (BL I q (by simp))
  |_=>exact absurd (show false=true from f) Bool.false_ne_true
 |int i=>
  obtain⟨t,rfl⟩:=g
  cases y with
  |BV=>cases d;exact PySem.EqNone.ne_int_none (BL I q (by simp))
  |int j=>obtain⟨e,rfl⟩:=d;exact ne_int (BL I q (congrArg not Rm))
  |str j=>obtain⟨e,rfl⟩:=d;exact PySem.EqMixed.ne_int_str (BL I q (by simp))
  |_=>exact absurd (show false=true from f) Bool.false_ne_true
 |str i=>
  obtain⟨t,rfl⟩:=g
  cases y with
  |BV=>cases d;exact PySem.EqNone.ne_str_none (BL I q (by simp))
  |bl j=>cases d;exact PySem.EqMixed.ne_str_bool (BL I q (by simp))
  |int j=>obtain⟨e,rfl⟩:=d;exact PySem.EqMixed.ne_str_int (BL I q (by simp))
  |str j=>obtain⟨e,rfl⟩:=d;exact ne_str (BL I q (congrArg not Rn))
  |_=>exact absurd (show false=true from f) Bool.false_ne_true
 |Nr i=>
  obtain⟨t,rfl⟩:=g
  cases y with
  |Nr j=>obtain⟨e,rfl⟩:=d;exact PySem.W.ne_bytes (BL I q (congrArg not Ro))
  |_=>exact absurd (show false=true from f) Bool.false_ne_true
 |_=>cases y<;>exact absurd (show false=true from f) Bool.false_ne_true
theorem IZ:Dy X (compareOp .Lt) (bA fun i j=>.bl (decide (i<j))):=bC fun _ _ _ _ _ _ _ q=>lt_int q
inductive Uy (x:V) (y:V) (H:Hp) (Q:VK):Prop
 |mk (i:_) (j:_) (d:x=.str i) (e:y=.str j) (f:Q (.bl (decide (i.cps.toList<j.cps.toList))) H):Uy x y H Q
theorem Ld:Dy X (compareOp .Gt) (bA fun i j=>.bl (decide (j<i))):=bC fun _ _ _ _ _ _ _ q=>gt_int q
theorem fQ:Dy X (compareOp .GtE) (bA fun i j=>.bl (decide (j<=i))):=bC fun _ _ _ _ _ _ _ q=>ge_int q
inductive Md (x:V) (y:V) (H:Hp) (Q:VK):Prop
 |mk (i:_) (j:_) (d:x=.str i) (e:y=.str j) (f:Q (.bl (!(Builtin.Str.occurrences j i 0 j.length 1).isEmpty)) H):Md x y H Q
theorem Uz:Dy X (compareOp .Is) (fun x y H Q=>y=.BV/\Q (.bl (decide (x=.BV))) H):=by
 intro pins s f H x y v u Q I d e h
 obtain⟨rfl,q⟩:=h
 cases e
 refine is_none_gen (BL I q ?_)
 cases x<;>first
  |(cases d;rfl)
  |(obtain⟨t,rfl⟩:=d;rfl)
inductive Iw (x:V) (y:V) (H:Hp) (Q:VK):Prop
 |mk (i:_) (j:_) (d:x=.str i) (e:y=.str j) (f:Q (.bl (!(!(Builtin.Str.occurrences j i 0 j.length 1).isEmpty))) H):Iw x y H Q
def isObj:HO->Bool
 | .lst _=>true
 | .ins _ _ _=>true
 |_=>false
inductive Me (x:V) (y:V) (H:Hp) (Q:VK):Prop
 |mk (a:_) (b:_) (d:_) (e:_) (f:x=.ref a) (g:y=.ref b) (h:H a=some d) (i:isObj d=true) (j:H b=some e) (k:isObj e=true) (l:Q (.bl (decide (a=b))) H):Me x y H Q
inductive Iy (x:V) (y:V) (H:Hp) (Q:VK):Prop
 |mk (a:_) (b:_) (d:_) (e:_) (f:x=.ref a) (g:y=.ref b) (h:H a=some d) (i:isObj d=true) (j:H b=some e) (k:isObj e=true) (l:Q (.bl (!decide (a=b))) H):Iy x y H Q
theorem AU (b:Expr) {op:CmpOp} (h:op≠.In:=by decide) (d:op≠.NotIn:=by decide):behindInMarks op b=false:=by
 have e:(op==CmpOp.In)=false:=by cases op<;>first|rfl|exact absurd rfl h
 have f:(op==CmpOp.NotIn)=false:=by cases op<;>first|rfl|exact absurd rfl d
 cases b<;>simp[behindInMarks,e,f]
theorem Cj {op:CmpOp} {r:R2} (d:Dy X (compareOp op) r) (e:PE X a ta) (f:PE X b tb) (g:behindInMarks op b=false):PE X (.Compare a [op] [b] pos) (Xu r ta tb):=by
 intro pins s i H Q I h
 exact wpAny_Compare1 (bB e f I h fun v u j x y k l m n q=>d pins j i k x y v u Q l m n q) g
def fR (t:TE):TT:=fun d H Q=>t d H fun x e=>kN x e Q
theorem AQ {op:CmpOp} {r:R2} (f:Dy X (compareOp op) r) (g:PE X a ta) (i:PE X b tb) (j:behindInMarks op b=false):PT X (.Compare a [op] [b] pos) (fR (Xu r ta tb)):=by
 intro pins s d H Q I h
 refine wpAny_isTrue_Compare1 (Bo (g pins s d H _ I h) fun v l m=>m.elim fun x n o p q=>Bo (i pins l d n _ o q) fun u t ⟨y,w,A,B,C⟩=>
  Bo (f pins t d w x y v u _ A p B C) fun c J ⟨z,D,E,F,k,e,G⟩=>?_) j
 subst e
 cases F
 exact wpAny_truthy_bool ⟨D,E,G⟩
def fS (K:ACh) (x:V) (H:Hp) (k:Bool):Prop:=
 match x with
 | .BV=>k=false
 | .bl b=>k=b
 | .int i=>k=(i !=0)
 | .str y=>y.length<=sizeLine/\k=((y.length:Int) !=0)
 | .Nr y=>y.size<=sizeLine/\k=((y.size:Int) !=0)
 | .ref p=>(∃d,Ah K H p d/\k= !d.isEmpty)∨(∃d,Bj K H p d/\k= !d.isEmpty)∨∃kvs,H p=some (.dK kvs)/\k= !kvs.isEmpty
 |_=>False
theorem QV {d:Type} {kvs:List (d×V)} {vs:List (d×Value)} (r:KV kvs vs):(!vs.isEmpty)= !kvs.isEmpty:=by
 cases r<;>rfl
theorem Je {xs:List V} {its:List Value} (r:Vals xs its):(!its.toArray.isEmpty)= !xs.isEmpty:=by
 cases r<;>simp
theorem IB:(sizeLine:Nat)<2 ^ 63:=by rw[sizeLine_eq];decide
theorem bE:ka X (fun x H Q=>∃k,fS X.K x H k/\Q k H):=by
 intro pins s B H x v Q I g h
 obtain⟨k,e,q⟩:=h
 have C:=IB
 have D:sizeLine=16777216:=sizeLine_eq
 cases x with
 |BV=>
  cases g
  have d:k=false:=e
  subst d
  exact truthy_none ⟨H,I,q⟩
 |bl b=>
  cases g
  have d:k=b:=e
  subst d
  exact wpAny_truthy_bool ⟨H,I,q⟩
 |int i=>
  obtain⟨t,rfl⟩:=g
  have d:k=(i !=0):=e
  subst d
  exact PySem.P.truthy_int ⟨H,I,q⟩
 |str y=>
  obtain⟨t,rfl⟩:=g
  obtain⟨z,d⟩:y.length<=sizeLine/\k=((y.length:Int) !=0):=e
  subst d
  exact PySem.P.truthy_str (by lia) ⟨H,I.tok _,q⟩
 |Nr y=>
  obtain⟨t,rfl⟩:=g
  obtain⟨z,d⟩:y.size<=sizeLine/\k=((y.size:Int) !=0):=e
  subst d
  exact PySem.W.truthy_bytes (by lia) ⟨H,I.tok _,q⟩
 |ref p=>
  cases g
  have d:(∃f,Ah X.K H p f/\k= !f.isEmpty)∨(∃f,Bj X.K H p f/\k= !f.isEmpty)∨∃kvs,H p=some (.dK kvs)/\k= !kvs.isEmpty:=e
  rcases d with⟨f,j,d⟩|⟨f,j,d⟩|⟨kvs,j,d⟩
  ·subst d
   obtain⟨n,r,o,u⟩:=I.list j
   have hlen:=r.length
   exact wpAny_truthy_list o.isList (by simp only[List.size_toArray];lia) ⟨H,I.tok _,by rw[Je r];exact q⟩
  ·subst d
   obtain⟨n,r,o,u⟩:=I.tuple j
   have hlen:=r.length
   exact truthy_tuple o (by simp only[List.size_toArray];lia) ⟨H,I.tok _,by rw[Je r];exact q⟩
  ·subst d
   obtain⟨u,A,l,r,m⟩:kvs.length<=sizeLine/\(p==sysModules)=false/\∃l,KV kvs l/\s.heap.DictOf (Am X.prog X.w) p l:=I.BO p _ j
   have hlen:kvs.length=l.length:=Paired.length r
   exact wpAny_truthy_dict A m (by lia) ⟨H,I.tok _,by rw[QV r];exact q⟩
 |_=>exact(show False from e).elim
theorem U_ (e:PE X a ta) (f:∀whole,isTrue a X.env whole=(do let v<-whole;standAt a.pos;holding [v] (truthy v))):
  PT X a (fun σ H Q=>ta σ H fun x d=>∃k,fS X.K x d k/\Q k d):=by
 intro pins s σ H Q I h
 exact isTrue_plain (Bo (e pins s σ H _ I h) fun v g i=>i.elim fun x j l m n=>bE pins g σ j x v Q l m n) (f _)
inductive GR (x:V) (y:V) (H:Hp) (Q:VK):Prop
 |mk (i:_) (j:_) (d:x=.str i) (e:y=.str j) (f:i.length+j.length<=sizeLine) (g:Q (.str (i++j)) H):GR x y H Q
def Mf:V->V->Hp->VK->Prop:=fun x y H Q=>GR x y H Q
theorem Ef:Dy X (binaryOp .Add) Mf:=by
 intro pins s k H x y v u Q I d e h
 obtain⟨i,j,rfl,rfl,f,q⟩:=h
 obtain⟨t,rfl⟩:=d
 obtain⟨g,rfl⟩:=e
 exact add_str (fun g l=>⟨.str (i++j),H,I.tok _,⟨_,rfl⟩,q⟩) f
inductive Jf (x:V) (y:V) (H:Hp) (Q:VK):Prop
 |mk (i:_) (j:_) (d:x=.str i) (e:y=.str j) (f:i.length+j.length<=sizeLine) (g:Q (.str (i++j)) H):Jf x y H Q
inductive LI (x:V) (y:V) (H:Hp) (Q:VK):Prop
 |mk (i:_) (j:_) (d:x=.Nr i) (e:y=.Nr j) (f:i.size+j.size<=16777216) (g:Q (.Nr (i++j)) H):LI x y H Q
theorem vals1 {x:V} {us:List Value} (r:Vals [x] us):∃u,us=[u]/\RelV x u:=by
 cases r with
 |cons d e=>cases e;exact⟨_,rfl,d⟩
theorem vals2 {x y:V} {us:List Value} (r:Vals [x,y] us):∃u d,us=[u,d]/\RelV x u/\RelV y d:=by
 cases r with
 |cons e f=>
  cases f with
  |cons g h=>cases h;exact⟨_,_,rfl,e,g⟩
inductive Ny (xs:List V) (H:Hp) (Q:VK):Prop
 |mk (i:_) (d:xs=[.int i]) (e:Q (.int (if i<0 then-i else i)) H):Ny xs H Q
inductive Mg (xs:List V) (H:Hp) (Q:VK):Prop
 |mk (i:_) (j:_) (d:xs=[.int i,.int j]) (e:Q (.int (if j>i then j else i)) H):Mg xs H Q
inductive Mh (xs:List V) (H:Hp) (Q:VK):Prop
 |mk (i:_) (j:_) (d:xs=[.int i,.int j]) (e:Q (.int (if j<i then j else i)) H):Mh xs H Q
theorem Le:BJ X (.type "int") (fun xs H Q=>(∃i,xs=[.int i]/\Q (.int i) H)∨∃k,xs=[.bl k]/\Q (.int (if k then 1 else 0)) H):=by
 intro pins s e H xs f Q I r h
 rcases h with⟨i,rfl,q⟩|⟨k,rfl,q⟩
 ·obtain⟨u,rfl,t,rfl⟩:=vals1 r
  exact call_int_int ⟨.int i,H,I,⟨_,rfl⟩,q⟩
 ·obtain⟨u,rfl,d⟩:=vals1 r
  cases d
  exact call_int_bool ⟨.int (if k then 1 else 0),H,I.tok _,⟨_,rfl⟩,q⟩
inductive Iz (xs:List V) (H:Hp) (Q:VK):Prop
 |mk (i:_) (d:xs=[.int i]) (e:i.natAbs.log2<1920) (f:Q (.str (toString i)) H):Iz xs H Q
inductive Nz (xs:List V) (H:Hp) (Q:VK):Prop
 |mk (x:_) (d:xs=[.str x]) (e:x.length=1) (f:Q (.int (x.cps.getD 0 0:Nat)) H):Nz xs H Q
inductive N_ (xs:List V) (H:Hp) (Q:VK):Prop
 |mk (i:_) (d:xs=[.int i]) (e:0<=i) (f:i<=1114111) (g:Q (.str ⟨#[i.toNat]⟩) H):N_ xs H Q
def ke (K:ACh) (x:V) (H:Hp) (n:Nat):Prop:=
 match x with
 | .str y=>y.length<=sizeLine/\n=y.length
 | .Nr y=>y.size<=sizeLine/\n=y.size
 | .ref p=>(∃d,Ah K H p d/\n=d.length)∨∃d,Bj K H p d/\n=d.length
 |_=>False
inductive OA (K:ACh) (xs:List V) (H:Hp) (Q:VK):Prop
 |mk (x:_) (n:_) (d:xs=[x]) (e:ke K x H n) (f:Q (.int n) H):OA K xs H Q
inductive Jg (xs:List V) (H:Hp) (Q:VK):Prop
 |mk (i:_) (j:_) (d:xs=[.int i,.int j]) (e:fO i j) (f:∀p,H p=none->Q (.ref p) (upd H p (.tup [.int (i/j),.int (i % j)]))):Jg xs H Q
end
structure bF (h:Heap) (x dx C:Addr) (mA:Str->Option Value):Prop where
 obj:h.get? x=some (PySem.W.instObj C dx)
 ns:h.Ns1 dx mA
 ne:dx≠x
theorem TV {h:Heap} {c:Addr} {d:Str->Option Value} (n:h.Ns1 c d):∃f,h.get? c=some f/\∀name,PySem.W.lookIn name f=some (d name):=by
 obtain⟨o,g,r,i,j,k,_,l⟩:=n
 refine⟨o,i,fun name=>?_⟩
 have e:=l name
 unfold nsFind findBy at e
 rw[<-Array.find?_toList]at e
 unfold PySem.W.lookIn
 rw[j]
 dsimp only
 split
 ·rename_i y q
  rw[q]at e
  exact congrArg some e
 ·rename_i q
  rw[q]at e
  have a:g.toList.any (·.refKey)=false:=by
   rw[List.any_eq_false]
   intro y m
   obtain⟨z,t,b⟩:=k y (Array.mem_toList_iff.mp m)
   simp[DictEntry.refKey,b]
  have p:¬g.toList.any (·.refKey)=true:=by rw[a];exact Bool.false_ne_true
  rw[if_neg p]
  exact congrArg some e
theorem bF.look {h:Heap} {x b C:Addr} {c:Str->Option Value} (I:bF h x b C c):∃a,PySem.W.InstAt h x (PySem.W.instObj C b) C (some a)/\∀name,PySem.W.lookIn name a=some (c name):=
 let⟨a,d,e⟩:=TV I.ns
 ⟨a,⟨I.obj,rfl,rfl,d⟩,e⟩
section
variable{prog:Program} {w:World} {A:Around} {E:Value->Shared->Prop} {s:Shared} {K:ACh} {x dx C f:Addr} {mA:Str->Option Value} {name:Str} {v:Value}
end
theorem Iv.some_of {v:V} {o:Option Value} (r:Iv (some v) o):∃u,o=some u/\RelV v u:=by
 cases o with
 |none=>exact(show False from r).elim
 |some u=>exact⟨u,rfl,r⟩
section
variable{P:Program} {w:World} {H H':Hp} {h h':Heap} {a C dx:Addr} {fs wN:List (Str×V)}
theorem Xv (c:GQ P w H h) (e:H a=some (.ins C dx fs)):∃b,bF h a dx C b/\(∀f,Iv (fs.lookup f) (b f))/\PySem.Within b (fs.map (·.1))/\fs.length<=1000/\H dx=some (.own a):=by
 obtain⟨d,z,ne,g,b,n,r,q⟩:=(show Ay P w H h a (.ins C dx fs)from c a _ e)
 exact⟨b,⟨g,n,ne⟩,r,q,z,d⟩
end
structure kh (K:ACh) (C:Addr):Prop where
 pg:PySem.W.plainGet K C Str.empty=true
 hd:PySem.W.hasDictIn K C=true
 po:PySem.W.plainOver K C=true
 sa:PySem.W.findIn K (.ref C) "__setattr__"=some (some (.builtin "object.__setattr__"))
theorem kh.get {K:ACh} {C:Addr} (c:kh K C) (f:Str):PySem.W.plainGet K C f=true:=c.pg
structure Con (K:ACh) (C:Addr) (f:Str) (v:V) (u:Value):Prop where
 at_:PySem.W.findIn K (.ref C) f=some (some u)
 rel:RelV v u
 get:PySem.W.specialIn K u "__get__"=some none
 cp:PySem.W.copiedNames.contains f=false
structure Meth (K:ACh) (C:Addr) (m:Str) (f:Addr):Prop where
 at_:PySem.W.findIn K (.ref C) m=some (some (.ref f))
 fn:PySem.W.isFn K (.ref f)=true
 kp:PySem.W.keepIn K (.ref f)=true
section
variable{X:Cx} {pins:List (Addr×Obj)} {σ:St} {H:Hp} {s:Shared} {a C dx:Addr} {fs:List (Str×V)} {f:Str} {v:V} {A:Around} {E:Value->Shared->Prop}
end
section
variable{X:Cx} {o e value:Expr} {f:Str} {pos pos' ki:Pos} {ta tv:TE}
inductive fW (x:V) (y:V) (H:Hp) (Q:VK):Prop
 |mk (i:_) (j:_) (a:x=.int i) (b:y=.int j) (c:Q (.int (i+j)) H):fW x y H Q
inductive fX (x:V) (y:V) (H:Hp) (Q:VK):Prop
 |mk (i:_) (j:_) (a:x=.int i) (b:y=.int j) (c:Q (.int (i-j)) H):fX x y H Q
end
section
variable{X:Cx} {pins:List (Addr×Obj)} {σ:St} {H:Hp} {s:Shared} {A:Around} {E:Value->Shared->Prop} {Q:Value->Shared->Prop} {c:Value} {b:Bool}
inductive IC (K:ACh) (H:Hp):V->Value->Prop where
 |BV:IC K H .BV (.type "NoneType")
 |bl (x:Bool):IC K H (.bl x) (.type "bool")
 |int (i:Int):IC K H (.int i) (.type "int")
 |str (x:Str):IC K H (.str x) (.type "str")
 |de (x:UInt64):IC K H (.de x) (.type "float")
 |lst {a:Addr} {xs:List V} (e:H a=some (.lst xs)):IC K H (.ref a) (.type "list")
 |CZ {a:Addr} {o:Obj} {xs:List V} (e:H a=some (.CZ o (.lst xs))):IC K H (.ref a) (.type "list")
 |tup {a:Addr} {xs:List V} (e:H a=some (.tup xs)):IC K H (.ref a) (.type "tuple")
 |dK {a:Addr} {kvs:List (Key×V)} (e:H a=some (.dK kvs)):IC K H (.ref a) (.type "dict")
 |dT {a:Addr} {kvs:List (List Key×V)} (e:H a=some (.dT kvs)):IC K H (.ref a) (.type "dict")
 |ins {a C d:Addr} {fs:List (Str×V)} (e:H a=some (.ins C d fs)) (g:kh K C) (h:PySem.W.findIn K (.ref C) "__class__"=some (some (.builtin "object.__class__")))
   (j:PySem.W.specialIn K (.builtin "object.__class__") "__get__"=some (some (.builtin "getset_descriptor.__get__"))) (f:PySem.W.takesIn K (.builtin "object.__class__")=some true)
   (k:PySem.W.mroIn K C (.type "object")=some true):IC K H (.ref a) (.ref C)
theorem EE {x:V} {u t:Value} (I:Inv X pins σ H s) (d:RelV x u) (ty:IC X.K H x t) (e:PySem.W.kitOne X.K t c=some b) (h:∀tk,Q (.bool b) {s with toks:=tk}):
  wpAny (model X.prog X.w) A (call (.builtin "isinstance") [u,c]) Q E s:=by
 cases ty with
 |BV=>cases(show u=Value.none from d);exact PySem.W.kia_one PySem.W.kitx_none I.Gf True.intro e (fun z=>nomatch z) h
 |bl y=>cases(show u=Value.bool y from d);exact PySem.W.kia_one PySem.W.kitx_bool I.Gf True.intro e (fun z=>nomatch z) h
 |int i=>obtain⟨t,q⟩:=(show∃t,u=Value.int i t from d);cases q;exact PySem.W.kia_one PySem.W.kitx_int I.Gf True.intro e (fun z=>nomatch z) h
 |str y=>obtain⟨t,q⟩:=(show∃t,u=Value.str y t from d);cases q;exact PySem.W.kia_one PySem.W.kitx_str I.Gf True.intro e (fun z=>nomatch z) h
 |de y=>obtain⟨t,q⟩:=(show∃t,u=Value.float y t from d);cases q;exact PySem.W.kia_one PySem.W.kitx_float I.Gf True.intro e (fun z=>nomatch z) h
 |@lst a j f=>
  cases(show u=Value.ref a from d)
  obtain⟨_,_,n,_,g⟩:=(show Ay X.prog X.w H s.heap a (.lst j)from I.BO a _ f)
  exact PySem.W.kia_one PySem.W.kitx_list I.Gf ⟨_,g,rfl⟩ e (fun z=>nomatch z) h
 |@CZ a r j f=>
  cases(show u=Value.ref a from d)
  obtain⟨_,_,_,n,_,g⟩:=(show Ay X.prog X.w H s.heap a (.CZ r (.lst j))from I.BO a _ f)
  exact PySem.W.kia_one PySem.W.kitx_list I.Gf ⟨_,g,rfl⟩ e (fun z=>nomatch z) h
 |@tup a j f=>
  cases(show u=Value.ref a from d)
  obtain⟨_,_,_,p⟩:=(show Ay X.prog X.w H s.heap a (.tup j)from I.BO a _ f)
  obtain⟨o,g,k,_⟩:=p
  exact PySem.W.kia_one PySem.W.kitx_tuple I.Gf ⟨o,g,k⟩ e (fun z=>nomatch z) h
 |@dK a kvs f=>
  cases(show u=Value.ref a from d)
  obtain⟨_,_,L,_,p⟩:=(show Ay X.prog X.w H s.heap a (.dK kvs)from I.BO a _ f)
  obtain⟨o,v,B,g,k,_⟩:=p
  exact PySem.W.kia_one PySem.W.kitx_dict I.Gf ⟨o,g,k.1⟩ e (fun z=>nomatch z) h
 |@dT a kvs f=>
  cases(show u=Value.ref a from d)
  obtain⟨_,_,j,_,o,v,B,g,k,_⟩:=(show Ay X.prog X.w H s.heap a (.dT kvs)from I.BO a _ f)
  exact PySem.W.kia_one PySem.W.kitx_dict I.Gf ⟨o,g,k.1⟩ e (fun z=>nomatch z) h
 |@ins a C M fs f m D F l G=>
  cases(show u=Value.ref a from d)
  obtain⟨N,O,_⟩:=Xv I.BO f
  obtain⟨P,J,_⟩:=O.look
  exact PySem.W.kia_one (PySem.W.kitx_own (m.get _) m.hd D F l G) I.Gf J e (fun z=>nomatch z) h
end
structure Aj (k:Nat) (A:Around):Prop where
 hd:A.handled=none
 dp:A.depth+3*k+5<recursionLimit
 un:A.units+16*k+200<cLine
 gd:A.guards=some []
theorem Aj.mono {j k:Nat} {A:Around} (r:Aj k A) (h:j<=k):Aj j A:=⟨r.hd,by have:=r.dp;lia,by have:=r.un;lia,r.gd⟩
theorem Aj.deeper {k:Nat} {A:Around} (r:Aj (k+1) A) (env:Env):Aj k (A.deeper env):=
 ⟨r.hd,by have:=r.dp;show A.depth+1+3*k+5<_;lia,by have:=r.un;show A.units+3+16*k+200<_;lia,r.gd⟩
theorem Aj.depth {k:Nat} {A:Around} (r:Aj k A):A.depth<recursionLimit:=by have:=r.dp;lia
theorem Aj.units {k:Nat} {A:Around} (r:Aj k A):A.units+64<cLine:=by have:=r.un;lia
theorem Aj.DT {k:Nat} {A:Around} (r:Aj k A):A.units<cLine:=by have:=r.un;lia
def QW:TA:=fun _ H Q=>Q [] H
def Gh (b:TE) (tr:TA):TA:=fun a H Q=>b a H fun x c=>tr a c fun d e=>Q (x::d) e
section
variable{X:Cx} {e:Expr} {es:List Expr} {te:TE} {t:TA} {pos:Pos}
theorem AB:PA X [] QW:=fun _ _ _ _ H Q I h=>Calls.spliced_nil ⟨[],H,I,.nil,h⟩
theorem AA (c:PE X e te) (d:PA X es t) (f:starEach (e::es) X.env=(false,eval e X.env)::starEach es X.env:=by rfl):PA X (e::es) (Gh te t):=by
 intro pos pins s b H Q I h
 rw[f]
 show wpAny _ _ (spliced ((false,eval e X.env)::backTo pos (starEach es X.env))) _ _ s
 refine Calls.spliced_cons (Bo (c pins s b H _ I h) fun u g a=>a.elim fun x i j k l=>?_)
 exact Bo (d pos pins g b i _ j l) fun r v a=>a.elim fun m n o p q=>⟨x::m,n,o,.cons k p,q⟩
def fY (t:TA):TE:=fun c H Q=>t c H fun a b=>a.length<=sizeLine/\∀p,b p=none->Q (.ref p) (upd b p (.tup a))
def kq (t:TA):TE:=fun c H Q=>t c H fun a b=>a.length<=sizeLine/\∀p,b p=none->Q (.ref p) (upd b p (.lst a))
theorem BF {f} (h:PA X es t):PE X (.Tuple es f pos) (fY t):=by
 intro pins s g H Q I i
 refine wpAny_Tuple_spliced (Bo (h pos pins s g H _ I i) fun j a ⟨k,c,d,r,z,q⟩=>⟨by rw[<-r.length];exact z,?_⟩)
 have l:c a.heap.objs.size=none:=d.BO.fresh (Nat.le_refl _)
 refine⟨.ref a.heap.objs.size,upd c a.heap.objs.size (.tup k),d.laid (t':=a.toks) (fun b u e=>Heap.get?_push_of_some _ e) (Nat.le_refl _) ?_,rfl,q _ l⟩
 exact⟨z,j,r,⟨_,Heap.get?_push_size _ rfl,rfl,_,rfl⟩⟩
theorem A' (h:PA X es t):PE X (.List es pos) (kq t):=by
 intro pins s f H Q I g
 refine wpAny_List_spliced (Bo (h pos pins s f H _ I g) fun i a ⟨j,c,d,r,z,q⟩=>⟨by rw[<-r.length];exact z,?_⟩)
 have k:c a.heap.objs.size=none:=d.BO.fresh (Nat.le_refl _)
 refine⟨.ref a.heap.objs.size,upd c a.heap.objs.size (.lst j),d.laid (t':=a.toks) (fun b u e=>Heap.get?_push_of_some _ e) (Nat.le_refl _) ?_,rfl,q _ k⟩
 exact⟨z,i,0,r,Heap.get?_push_size _ rfl⟩
end
abbrev Sp:=List V->Hp->VK->XK->Prop
abbrev TX:=List Env->Hp->Shared->XK->Value->Shared->Prop
structure Xw (P:Program) (w:World) (K:ACh) (mg:Str->Option Value) (base:Heap) (A:Around) (outer:List Env) (s:Shared) (H:Hp):Prop where
 frames:A.frames=some outer
 mod:Mod K mg base
 bs:∀b o,base.get? b=some o->s.heap.get? b=some o/\H b=none
 Zf:base.objs.size<=s.heap.objs.size
 Jb:s.heap.FunFrames base outer
 df:∀b∈Up outer,H b=none
 BO:GQ P w H s.heap
 bare:AllBare s.gens
inductive CE (outer:List Env) (P:Program) (w:World) (H:Hp) (s:Shared) (Q:VK) (u:Value) (a:Shared):Prop
 |mk (v:V) (b:Hp) (os:a.os=s.os) (bare:AllBare a.gens) (un:Un (Up outer) [] H b s.heap a.heap) (c:GQ P w b a.heap) (r:RelV v u) (q:Q v b):CE outer P w H s Q u a
def CR (CX:TX) (outer:List Env) (P:Program) (w:World) (H:Hp) (s:Shared) (Q:VK) (E:XK) (r:Result) (a:Shared):Prop:=
 match r with
 | .ok (.ret u)=>CE outer P w H s Q u a
 | .ok _=>False
 | .error e=>CX outer H s E e a
structure BX (P:Program) (w:World) (K:ACh) (mg:Str->Option Value) (base:Heap) (CX:TX) (k:Nat) (f:Addr) (fd:FuncData) (ps:List Str) (sp:Sp):Prop where
 len:∀vs H Q E,sp vs H Q E->vs.length=ps.length
 run:∀(A:Around) (outer:List Env) (s:Shared) (H:Hp) (args:Args) (us:List Value) (vs:List V) (Q:VK) (E:XK),Aj k A->Xw P w K mg base A outer s H->BindsTo s fd args (ps.zip us)->Vals vs us->sp vs H Q E->
  codeAny (model P w) A (.call (.ref f) args) (CR CX outer P w H s Q E) s
theorem BX.imp {P:Program} {w:World} {K:ACh} {mg:Str->Option Value} {base:Heap} {CX:TX} {k:Nat} {f:Addr} {b:FuncData} {ps:List Str} {sp a:Sp} (F:BX P w K mg base CX k f b ps sp)
  (h:∀vs H Q E,a vs H Q E->sp vs H Q E):BX P w K mg base CX k f b ps a:=
 ⟨fun vs H Q E q=>F.len vs H Q E (h _ _ _ _ q),fun A outer s H args c vs Q E d e g i j=>F.run A outer s H args c vs Q E d e g i (h _ _ _ _ j)⟩
section
variable{X:Cx} {pins:List (Addr×Obj)} {σ:St} {H:Hp} {s s':Shared}
theorem Inv.kr (I:Inv X pins σ H s):Xw X.prog X.w X.K X.mg X.base X.A X.stack s H:=
 ⟨I.ok.frames,I.ok.mod,I.bs,Nat.le_trans I.ok.Zf I.sz,I.stack,I.Rg,I.BO,I.bare⟩
theorem Inv.after {Q:VK} {u:Value} (I:Inv X pins σ H s) (h:CE X.stack X.prog X.w H s Q u s'):EP X pins σ Q u s':=by
 obtain⟨v,e,os,bare,un,a,r,q⟩:=h
 obtain⟨f,g,d,t,c⟩:=s'
 obtain rfl:c=s.os:=os
 exact⟨v,e,I.call (h':=f) (g':=g) (d':=d) (t':=t) (ch:=[]) un a bare (fun b z=>absurd z (by simp)),r,q⟩
end
def Rp (sp:Sp) (a:List V) (E:XK) (t:TA):TE:=fun b H Q=>t b H fun c d=>sp (c++a) d Q E
def Binds (K:ACh) (b:FuncData) (ps:List Str) (ds:List Value):Prop:=
 ∀(s:Shared) (a:List Value),K.In s.heap->(a++ds).length=ps.length->BindsTo s b ⟨a,[]⟩ (ps.zip (a++ds))
theorem Binds.all {K:ACh} {a:FuncData} {ps:List Str} (h:∀us:List Value,us.length=ps.length->bindArgs a ⟨us,[]⟩=pure (ps.zip us)):Binds K a ps []:=fun s us _ b=>by
 rw[List.append_nil]at b⊢
 exact .of_eq (h us b)
def Passes (CX:TX) (X:Cx) (E:XK):Prop:=∀(pins:List (Addr×Obj)) (b:St) (H:Hp) (s:Shared) (e:Value) (a:Shared),Inv X pins b H s->CX X.stack H s E e a->X.xe e a
section
variable{X:Cx} {CX:TX} {k:Nat} {f C:Addr} {fd:FuncData} {ps:List Str} {sp:Sp} {Xx:List V} {ds:List Value} {E:XK} {x m:Str} {p pos apos:Pos} {e o:Expr} {es:List Expr} {ta:TE} {t:TA}
theorem U' {pins:List (Addr×Obj)} {σ:St} {H:Hp} {s:Shared} {Q:VK} {us:List Value} {vs:List V} (F:BX X.prog X.w X.K X.mg X.base CX k f fd ps sp) (c:Aj k X.A) (d:Binds X.K fd ps ds) (g:Vals Xx ds) (i:Passes CX X E)
  (I:Inv X pins σ H s) (r:Vals vs us) (h:sp (vs++Xx) H Q E):wpAny (model X.prog X.w) X.A (call (.ref f) us) (EP X pins σ Q) X.xe s:=by
 have b:Vals (vs++Xx) (us++ds):=r.append g
 have j:(us++ds).length=ps.length:=by rw[<-b.length];exact F.len _ _ _ _ h
 refine wpAny_call (codeAny_mono (F.run X.A X.stack s H ⟨us,[]⟩ (us++ds) (vs++Xx) Q E c I.kr (d s us I.Gf j) b h) fun r l a=>?_)
 cases r with
 |error e=>exact i pins σ H s e l I a
 |ok n=>
  cases n with
  |ret u=>exact I.after a
  |next=>exact False.elim a
  |brk=>exact False.elim a
  |cont=>exact False.elim a
theorem AK (F:BX X.prog X.w X.K X.mg X.base CX k f fd ps sp) (d:Aj k X.A) (g:Gl X x) (i:X.mg x=some (.ref f)) (j:PySem.W.keepIn X.K (.ref f)=true) (l:Binds X.K fd ps ds) (n:Vals Xx ds) (u:Passes CX X E)
  (v:PA X (e::es) t) (a:(x==("__debug__":Str))=false:=by decide) (y:starEach (e::es) X.env=(false,eval e X.env)::starEach es X.env:=by rfl) (b:(backTo pos (starEach es X.env)).any (·.1)=false:=by rfl):
  PE X (.Call (.Name x p) (e::es) [] pos) (Rp sp Xx E t):=by
 intro pins s z H Q I h
 refine wpAny_Call_Name_kw (Ri I g i ?_ a)
 refine PySem.W.callWith_K (h₀:=X.base) I.ok.mod.eW j (Bo (v pos pins s z H _ I h) fun D G B=>B.elim fun J L c r q=>⟨c.Gf,?_⟩) y b
 exact U' F d l n u c r q
structure Mk (K:ACh) (C f:Addr):Prop where
 makes:PySem.W.makesIn K C=true
 init:PySem.W.findIn K (.ref C) "__init__"=some (some (.ref f))
 fn:PySem.W.isFn K (.ref f)=true
 kp:PySem.W.keepIn K (.ref C)=true
end
section
variable{X:Cx} {CX:TX} {k:Nat} {f C:Addr} {fd:FuncData} {ps ks:List Str} {sp:Sp} {E:XK} {x m:Str} {p pos apos wa:Pos} {e o:Expr} {es:List Expr} {di:List Keyword} {te ta:TE} {t tk:TA} {nm:Option Str}
structure ku (K:ACh) (fd:FuncData) (ps ks:List Str) (g:List Value->List Value->List Value) (gV:List V->List V->List V):Prop where
 to:∀(s:Shared) (us ws:List Value),K.In s.heap->(g us ws).length=ps.length->BindsTo s fd ⟨us,ks.zip ws⟩ (ps.zip (g us ws))
 rel:∀{vs:List V} {us:List Value} {zs:List V} {ws:List Value},Vals vs us->Vals zs ws->Vals (gV vs zs) (g us ws)
variable{g:List Value->List Value->List Value} {gV:List V->List V->List V}
end
structure Ax (N P:List Str) (sc:Scope):Prop where
 kind:sc.kind=.function
 co:sc.isCoroutine=false
 gen:sc.isGenerator=false
 nd:N.Nodup
 pre:N.take P.length=P
 par:∀x∈P,sc.names.lookup x=some .local∨sc.names.lookup x=some .cell
 bH:∀y∈sc.names,y.2≠.free
theorem Lg {kindOf:Str->Option NameKind} {x:Str}:∀{binds:List (Str×Value)} {m:Str->Option Value},(∀v,(x,v)∉binds)->bindL kindOf binds m x=m x
 |[],_,_=>rfl
 |(n,v)::r,m,h=>by
  unfold bindL
  rw[Lg fun w hw=>h w (List.mem_cons_of_mem _ hw)]
  split
  ·have:x≠n:=by rintro rfl;exact h v List.mem_cons_self
   simp[this]
  ·rfl
theorem Lh {kindOf:Str->Option NameKind} {x:Str}:∀{binds:List (Str×Value)} {m:Str->Option Value},(∀v,(x,v)∉binds)->bindC kindOf binds m x=m x
 |[],_,_=>rfl
 |(n,v)::r,m,h=>by
  unfold bindC
  rw[Lh fun w hw=>h w (List.mem_cons_of_mem _ hw)]
  split
  ·rfl
  ·have:x≠n:=by rintro rfl;exact h v List.mem_cons_self
   simp[this]
theorem Li {kindOf:Str->Option NameKind} {x:Str} {v:Value}:∀{P:List Str} {vs:List Value} {i:Nat} {m:Str->Option Value},P.Nodup->P[i]?=some x->vs[i]?=some v->kindOf x=some .local->
  bindL kindOf (P.zip vs) m x=some v
 |[],_,_,_,_,h,_,_=>by simp at h
 |_::_,[],_,_,_,_,h,_=>by simp at h
 |p::P,w::vs,0,m,nd,a,b,c=>by
  simp at a b;subst a;subst b
  show bindL kindOf ((p,w)::P.zip vs) m p=_
  unfold bindL
  rw[Lg fun v d=>(List.nodup_cons.mp nd).1 (List.of_mem_zip d).1,if_pos c]
  simp
 |p::P,w::vs,i+1,m,nd,a,b,c=>by
  show bindL kindOf ((p,w)::P.zip vs) m x=_
  unfold bindL
  exact Li (i:=i) (List.nodup_cons.mp nd).2 (by simpa using a) (by simpa using b) c
theorem Lj {kindOf:Str->Option NameKind} {x:Str} {v:Value}:∀{P:List Str} {vs:List Value} {i:Nat} {m:Str->Option Value},P.Nodup->P[i]?=some x->vs[i]?=some v->kindOf x≠some .local->
  bindC kindOf (P.zip vs) m x=some v
 |[],_,_,_,_,h,_,_=>by simp at h
 |_::_,[],_,_,_,_,h,_=>by simp at h
 |p::P,w::vs,0,m,nd,a,b,c=>by
  simp at a b;subst a;subst b
  show bindC kindOf ((p,w)::P.zip vs) m p=_
  unfold bindC
  rw[Lh fun v d=>(List.nodup_cons.mp nd).1 (List.of_mem_zip d).1,if_neg c]
  simp
 |p::P,w::vs,i+1,m,nd,a,b,c=>by
  show bindC kindOf ((p,w)::P.zip vs) m x=_
  unfold bindC
  exact Lj (i:=i) (List.nodup_cons.mp nd).2 (by simpa using a) (by simpa using b) c
def start (N:List Str) (vs:List V):St:=vs.map some++List.replicate (N.length-vs.length) none
def TY (CX:TX) (P:Program) (w:World) (K:ACh) (mg:Str->Option Value) (base:Heap) (N:List Str) (qual:Str) (scope:Scope) (f:Addr) (cd:Value) (A:Around) (outer:List Env) (s:Shared) (H:Hp) (E:XK):Cx where
 prog:=P
 w:=w
 K:=K
 mg:=mg
 base:=base
 A:=A.deeper (envOfC qual scope s.heap.objs.size f cd)
 N:=N
 s₀:=s
 H₀:=H
 env:=envOfC qual scope s.heap.objs.size f cd
 outer:=outer
 stack:=envOfC qual scope s.heap.objs.size f cd::outer
 ex:=[]
 calm:=true
 fn:=fun _=>true
 pn:=[]
 xe:=fun e s'=>wpAny (model P w) (A.deeper (envOfC qual scope s.heap.objs.size f cd)) (leaving (envOfC qual scope s.heap.objs.size f cd) e) (fun _ jS=>CX outer H s E e jS) (fun e' jS=>CX outer H s E e' jS) s'
theorem OB {a:Scope} {n:Nat} {x:Str} (h:a.names.lookup x=some .cell):∃c,(cellsFrom n a.names []).lookup x=some c:=by
 have q:=PySem.W.cellsFrom_some a.names n [] (.inl h)
 exact Option.isSome_iff_exists.mp q
theorem TZ {CX:TX} {P:Program} {w:World} {K:ACh} {mg:Str->Option Value} {base:Heap} {N ps:List Str} {qual:Str} {scope:Scope} {f:Addr} {t:Value} {A:Around} {outer:List Env} {s D:Shared} {H:Hp} {E:XK} {us:List Value} {vs:List V}
  (S:Ax N ps scope) (I:A.handled=none) (g:Xw P w K mg base A outer s H) (hl:vs.length=ps.length) (r:Vals vs us)
  (x:InCallC s s.heap.objs.size (bindL (envOfC qual scope s.heap.objs.size f t).kindOf (ps.zip us) fun _=>none) (cellsFrom (s.heap.objs.size+1) scope.names []) (bindC (envOfC qual scope s.heap.objs.size f t).kindOf (ps.zip us) fun _=>none) D):
  Inv (TY CX P w K mg base N qual scope f t A outer s H E) [] (start N vs) H D:=by
 have J:ps.length<=N.length:=by have:=congrArg List.length S.pre;rw[List.length_take]at this;lia
 obtain⟨B,O,rfl,F⟩:=x.done
 have j:∀b:Addr,b∉(TY CX P w K mg base N qual scope f t A outer s H E).ex:=fun b z=>absurd (show b∈([]:List Addr)from z) (by simp)
 refine⟨⟨g.mod,S.kind,rfl,rfl,Nat.le_refl _,fun y z c B d=>?_,fun y l=>?_,fun y c _ h=>?_,fun _=>I,Around.frames_deeper g.frames,.inr ⟨rfl,rfl⟩,fun b z=>absurd z (j b),g.bs,g.Zf,fun b _ _=>j b,fun b z=>absurd z (j b),g.Jb,g.df⟩,
  rfl,g.bare,Un.kept F,⟨_,x.toInCall.ns,fun i y v B d Q=>?_⟩,fun y c h=>⟨_,x.cell y c h⟩,g.BO.fresh (Nat.le_refl _),fun y c h=>?_,fun p m=>absurd (show p∈([]:List (Addr×Obj))from m) (by simp),g.BO.kept F,?_⟩
 ·exact name_of_addr x.apart (PySem.mem_of_lookup B) (PySem.mem_of_lookup d)
 ·have l:scope.names.lookup y=some .cell∨scope.names.lookup y=some .free:=l
  rcases l with l|l
  ·exact OB l
  ·exact absurd rfl (S.bH _ (PySem.mem_of_lookup l))
 ·exact Nat.le_of_lt (x.above y c (PySem.mem_of_lookup h))
 ·have C:i<vs.length:=by
   unfold start at d
   by_cases C:i<vs.length
   ·exact C
   ·rw[List.getElem?_append_right (by simpa using C)]at d
    rw[List.getElem?_replicate]at d
    split at d<;>cases d
  have L:vs[i]?=some v:=by
   unfold start at d
   rw[List.getElem?_append_left (by simpa using C),List.getElem?_map]at d
   cases e:vs[i]? with
   |none=>rw[e]at d;cases d
   |some a=>rw[e]at d;cases d;rfl
  obtain⟨u,G,M⟩:=r.get L
  have m:ps[i]?=some y:=by
   rw[<-S.pre,List.getElem?_take_of_lt (by lia)];exact B
  have o:ps.Nodup:=by rw[<-S.pre];exact S.nd.sublist (List.take_sublist _ _)
  refine⟨u,M,?_⟩
  rcases S.par y (ACg m)with k|k
  ·exact .inl ⟨k,Li o m G k⟩
  ·obtain⟨c,e⟩:=OB (n:=s.heap.objs.size+1) k
   refine .inr ⟨.inl k,c,e,?_⟩
   have q:=x.cell y c e
   rw[Lj o m G (by show scope.names.lookup y≠_;rw[k];decide)]at q
   exact q
 ·exact g.BO.fresh (Nat.le_of_lt (x.above y c (PySem.mem_of_lookup h)))
 ·unfold start
  show _=N.length
  rw[List.length_append,List.length_map,List.length_replicate]
  lia
theorem fZ {CX:TX} {P:Program} {w:World} {K:ACh} {mg:Str->Option Value} {base:Heap} {k:Nat} {f:Addr} {name qual:Str} {params:Arguments} {body:List Stmt} {scope:Scope} {F kV doc G a ct R:Value} {L T:Option Addr}
  {m:Array (Option Value)} {N ps:List Str} {sp:Sp} (lk:K.lookup f=some ⟨R,T,.func (PySem.W.fnOf name qual params body scope F kV doc G L a ct),m⟩) (p:PySem.W.codeIn K a qual=true) (S:Ax N ps scope)
  (len:∀vs H Q E,sp vs H Q E->vs.length=ps.length)
  (g:∀(A:Around) (outer:List Env) (s:Shared) (H:Hp) (vs:List V) (Q:VK) (E:XK),Aj k (A.deeper (envOfC qual scope s.heap.objs.size f a))->sp vs H Q E->
   ∃t,TK (TY CX P w K mg base N qual scope f a A outer s H E) body t/\t {nx:=fun _ d=>Q .BV d,rt:=Q} (start N vs) H):
  BX P w K mg base CX (k+1) f (PySem.W.fnOf name qual params body scope F kV doc G L a ct) ps sp:=by
 refine⟨len,fun A outer s H args U vs Q E z j X r l=>?_⟩
 have Y:=len _ _ _ _ l
 have M:K.In s.heap:=j.mod.eW.keeps fun b o e=>(j.bs b o e).1
 have B:s.heap.NoLimit:=j.mod.nolimit.keeps fun b o e=>(j.bs b o e).1
 have h:∀y∈ps.zip U,scope.names.lookup y.1=some .local∨(scope.names.lookup y.1=some .cell/\((cellsFrom (s.heap.objs.size+1) scope.names []).lookup y.1).isSome=true):=fun⟨n,v⟩ Z=>by
  rcases S.par n (List.of_mem_zip Z).1 with q|q
  ·exact .inl q
  ·exact .inr ⟨q,PySem.W.cellsFrom_some _ _ _ (.inl q)⟩
 refine codeAny_call_function z.depth (M _ _ lk) rfl S.co S.gen rfl (PySem.W.codeRec_of M p) (X _ _ _ _ ?_)
 refine wpAny_newFunctionEnv_cells S.kind h fun env he O x=>?_
 subst he
 refine⟨B.keeps x.toInCall.keep,codeAny_func ?_⟩
 obtain⟨t,ht,hq⟩:=g A outer s H vs Q E (z.deeper _) l
 have I:Inv (TY CX P w K mg base N qual scope f a A outer s H E) [] (start N vs) H O:=TZ S z.hd j Y r x
 refine wpAny_mono (ht [] O (start N vs) H _ I hq) (fun fl C i=>?_) fun e C i=>i
 have fin:∀{c:St} {d:Hp} {v:V} {u:Value},Inv (TY CX P w K mg base N qual scope f a A outer s H E) [] c d C->RelV v u->Q v d->CE outer P w H s Q u C:=
  fun{c d v u} J D q=>⟨v,d,J.os,J.bare,J.base,J.BO,D,q⟩
 cases fl with
 |ret u=>
  obtain⟨v,c,d,J,D,q⟩:=i
  exact fin J D q
 |next=>
  obtain⟨c,d,J,q⟩:=i
  exact fin (v:=V.BV) (u:=Value.none) J rfl q
 |brk=>
  obtain⟨_,_,_,q⟩:=i
  exact False.elim q
 |cont=>
  obtain⟨_,_,_,q⟩:=i
  exact False.elim q
section
variable{X:Cx} {x:Str} {p pos:Pos} {e:Expr} {es:List Expr} {t:TA} {id T:String} {r:List V->Hp->VK->Prop}
def jT (r:List V->Hp->VK->Prop) (t:TA):TE:=fun a H Q=>t a H fun b c=>r b c Q
theorem AM (d:BJ X (.builtin id) r) (f:Gl X x) (g:X.mg x=none) (i:bootBuiltins x=some (.builtin id)) (j:PA X (e::es) t) (k:x≠"__name__":=by decide) (a:(x==("__debug__":Str))=false:=by decide)
  (l:starEach (e::es) X.env=(false,eval e X.env)::starEach es X.env:=by rfl) (b:(backTo pos (starEach es X.env)).any (·.1)=false:=by rfl):PE X (.Call (.Name x p) (e::es) [] pos) (jT r t):=by
 intro pins s c H Q I h
 refine wpAny_Call_Name_kw (Ec I f g i ?_ k a)
 exact PyProof.Rows.callWith_builtin1 (Bo (j pos pins s c H _ I h) fun m n o=>o.elim fun q u v w y=>d pins n c u q m Q v w y) l b
theorem BB (d:BJ X (.type T) r) (f:Gl X x) (g:X.mg x=none) (i:bootBuiltins x=some (.type T)) (j:PA X (e::es) t) (k:x≠"__name__":=by decide) (a:(x==("__debug__":Str))=false:=by decide)
  (l:starEach (e::es) X.env=(false,eval e X.env)::starEach es X.env:=by rfl) (b:(backTo pos (starEach es X.env)).any (·.1)=false:=by rfl):PE X (.Call (.Name x p) (e::es) [] pos) (jT r t):=by
 intro pins s c H Q I h
 refine wpAny_Call_Name_kw (Ec I f g i ?_ k a)
 exact PyProof.Rows.callWith_type1 (Bo (j pos pins s c H _ I h) fun m n o=>o.elim fun q u v w y=>d pins n c u q m Q v w y) l b
end
end L2
namespace HT
open PySem PyProof.Rows
def lexLt:List Int->List Int->Bool
 |[],[]=>false
 |[],_::_=>true
 |_::_,[]=>false
 |x::xs,y::ys=>if x=y then lexLt xs ys else decide (x<y)
section
open PySem.SeqAt
open PySem.AutoSeq1 (wpAny_loadPart')
open PySem.MeetsSeq PySem.MeetsSeq2 PySem.MeetsSeq3
end
section
variable{prog:Program} {w:World} {A:Around} {E:Value->Shared->Prop} {s:Shared}
def FJ (n d:Nat):Option Int->Nat
 |none=>d
 |some v=>if v<0 then(v+(n:Int)).toNat else min v.toNat n
theorem VA (n d:Nat):FJ n d none=d:=rfl
theorem Rq (n d k:Nat):FJ n d (some (k:Int))=min k n:=by
 show(if(k:Int)<0 then((k:Int)+(n:Int)).toNat else min (k:Int).toNat n)=min k n
 rw[if_neg (by lia),Int.toNat_natCast]
end
end HT
namespace L2
open PySem PySem.Spec PyProof.Rows
abbrev TO:=St->Hp->(Option Int->Hp->Prop)->Prop
def PO (X:Cx) (e:Option Expr) (t:TO):Prop:=
 ∀(pins:List (Addr×Obj)) (s:Shared) (a:St) (H:Hp) (Q:Option Int->Hp->Prop),Inv X pins a H s->t a H Q->
  wpAny (model X.prog X.w) X.A (evalPart e X.env) (fun u c=>∃o b,Inv X pins a b c/\IsPart u o/\Q o b) X.xe s
def Xy:TO:=fun _ H Q=>Q none H
def fe (t:TE):TO:=fun a H Q=>t a H fun x b=>tE x b Q
section
variable{X:Cx} {e:Expr} {te:TE} {lo hi:Option Expr} {tl th:TO} {pos p2:Pos}
theorem Fm:PO X none Xy:=by
 intro pins s a H Q I h
 rw[evalPart_none]
 exact wpAny_pure ⟨none,H,I,.none,h⟩
theorem Dn (h:PE X e te):PO X (some e) (fe te):=by
 intro pins s a H Q I hw
 rw[evalPart_some]
 refine Bo (h pins s a H _ I hw) fun u j b=>b.elim fun x c d f g=>?_
 obtain⟨i,rfl,q⟩:=g
 obtain⟨t,rfl⟩:=f
 exact⟨some i,c,d,.int i t,q⟩
def kv (X:Cx) (r:V->Option Int->Option Int->Hp->VK->Prop):Prop:=
 ∀(pins:List (Addr×Obj)) (s:Shared) (a:St) (H:Hp) (x:V) (v b c:Value) (lo hi:Option Int) (d:Addr) (Q:VK),Inv X pins a H s->RelV x v->s.heap.IsSliceOf d b c .none->IsPart b lo->IsPart c hi->r x lo hi H Q->
  ∃T id,typeLookup (.type T) "__getitem__"=pure (some (.builtin id))/\s.TypeIs v T/\wpAny (model X.prog X.w) X.A (getItem v (.ref d)) (EP X pins a Q) X.xe s
def wc (r:V->Option Int->Option Int->Hp->VK->Prop) (te:TE) (tl th:TO):TE:=fun a H Q=>te a H fun x b=>tl a b fun l c=>th a c fun u d=>r x l u d Q
theorem DU {r:V->Option Int->Option Int->Hp->VK->Prop} (i:kv X r) (j:PE X e te) (hl:PO X lo tl) (k:PO X hi th):PE X (.Subscript e (.Slice lo hi none p2) pos) (wc r te tl th):=by
 intro pins s c H Q I h
 refine Subscript_ (Bo (j pins s c H _ I h) fun v m n=>n.elim fun x o p t y=>?_)
 refine wpAny_Slice (Bo (hl pins m c o _ p y) fun d z ⟨l,B,C,D,E⟩=>Bo (k pins z c B _ C E) fun f a ⟨u,g,F,G,J⟩=>?_)
 rw[evalPart_none]
 refine wpAny_pure ?_
 have K:Inv X pins c g {a with heap:=a.heap.push {cls:=.type "slice",data:=.fields #[d,f,.none]}}:=F.kept (t':=a.toks) fun b O q=>Heap.get?_push_of_some _ q
 obtain⟨T,id,L,M,N⟩:=i pins {a with heap:=a.heap.push {cls:=.type "slice",data:=.fields #[d,f,.none]}} c g x v d f l u a.heap.objs.size Q K t (Heap.IsSliceOf.new ..) D G J
 show wpAny (model X.prog X.w) X.A (subscriptTail e (.Slice lo hi none p2) v (.ref a.heap.objs.size)) (EP X pins c Q) X.xe {a with heap:=a.heap.push {cls:=.type "slice",data:=.fields #[d,f,.none]}}
 exact tail_any (ops:=[.ref a.heap.objs.size,v]) M L N (by with_unfolding_all rfl)
def GN (xs:List V) (lo hi:Option Int):List V:=(xs.drop (HT.FJ xs.length 0 lo)).take (HT.FJ xs.length xs.length hi-HT.FJ xs.length 0 lo)
theorem OC (xs:List V) (lo hi:Option Int):(GN xs lo hi).length<=xs.length:=by
 unfold GN
 rw[List.length_take,List.length_drop]
 lia
inductive ff (K:ACh) (x:V) (lo:Option Int) (hi:Option Int) (H:Hp) (Q:VK):Prop
 |mk (a:_) (xs:_) (b:x=.ref a) (c:Bj K H a xs) (d:¬(HT.FJ xs.length 0 lo=0/\HT.FJ xs.length xs.length hi=xs.length)) (f:∀p,H p=none->Q (.ref p) (upd H p (.tup (GN xs lo hi)))):ff K x lo hi H Q
inductive fg (K:ACh) (x:V) (y:V) (H:Hp) (Q:VK):Prop
 |mk (a:_) (b:_) (ns:_) (c:_) (d:x=.ref a) (f:y=.ref b) (g:Bj K H a (ns.map V.int)) (h:Bj K H b (c.map V.int)) (i:Q (.bl (HT.lexLt ns c)) H):fg K x y H Q
inductive bK (K:ACh) (x:V) (y:V) (H:Hp) (Q:VK):Prop
 |mk (a:_) (b:_) (xs:_) (ys:_) (c:x=.ref a) (d:y=.ref b) (f:Bj K H a xs) (g:Bj K H b ys) (h:xs≠[]) (i:xs.length+ys.length<=sizeLine) (j:(ys=[]->Q (.ref a) H)) (k:(ys≠[]->∀p,H p=none->Q (.ref p) (upd H p (.tup (xs++ys))))):bK K x y H Q
inductive Jh (K:ACh) (xs:List V) (H:Hp) (Q:VK):Prop
 |mk (a:_) (ys:_) (b:xs=[.ref a]) (c:Bj K H a ys) (d:Q (.ref a) H):Jh K xs H Q
end
def QX (n:Nat) (i:Int):Option Nat:=if 0<=i then(if i<n then some i.toNat else none)else if-(n:Int)<=i then some (i+n).toNat else none
def OD {a:Type} (xs:List a) (i:Int):Option a:=(QX xs.length i).bind fun j=>xs[j]?
theorem Fn {n:Nat} {i:Int} {j:Nat} (h:QX n i=some j):seqIndex? i n=some j/\j<n/\ -(n:Int)<=i/\i<n:=by
 unfold QX at h
 by_cases b:0<=i
 ·rw[if_pos b]at h
  by_cases a:i<n
  ·rw[if_pos a]at h
   have e:i.toNat=j:=ACf h
   exact⟨by rw[seqIndex_of b a,e],by lia,by lia,a⟩
  ·rw[if_neg a]at h;cases h
 ·rw[if_neg b]at h
  by_cases a: -(n:Int)<=i
  ·rw[if_pos a]at h
   have e:(i+n).toNat=j:=ACf h
   exact⟨by rw[seqIndex_neg (by lia) a,e],by lia,a,by lia⟩
  ·rw[if_neg a]at h;cases h
theorem JM {a:Type} {xs:List a} {i:Int} {v:a} (h:OD xs i=some v):∃j,seqIndex? i xs.length=some j/\xs[j]?=some v/\j<xs.length/\ -(xs.length:Int)<=i/\i<xs.length:=by
 unfold OD at h
 cases e:QX xs.length i with
 |none=>rw[e]at h;cases h
 |some j=>
  rw[e]at h
  obtain⟨b,c,d,f⟩:=Fn e
  exact⟨j,b,h,c,d,f⟩
theorem Av {a:Type} {xs:List a} {j:Nat} {v:a} (h:xs[j]?=some v):OD xs (j:Int)=some v:=by
 have b:j<xs.length:=(ACe h).1
 have e:QX xs.length (j:Int)=some j:=by
  unfold QX
  rw[if_pos (by lia),if_pos (by lia)];simp
 unfold OD;rw[e];exact h
def Xz (b:Expr):Prop:=∀o i,subscripted b false o i=operate [o,i] (getItem o i)
def jU (X:Cx) (r:R2):Prop:=
 ∀(value slice:Expr) (pins:List (Addr×Obj)) (s:Shared) (a:St) (H:Hp) (x y:V) (v u:Value) (Q:VK),Inv X pins a H s->RelV x v->RelV y u->r x y H Q->
  subscripted slice false v u=operate [v,u] (getItem v u)->wpAny (model X.prog X.w) X.A (subscriptTail value slice v u) (EP X pins a Q) X.xe s
def tK (X:Cx) (id:String) (r:V->List V->Hp->VK->Prop):Prop:=
 ∀(pins:List (Addr×Obj)) (s:Shared) (a:St) (H:Hp) (x:V) (b:List V) (v:Value) (c:List Value) (Q:VK),Inv X pins a H s->RelV x v->Vals b c->r x b H Q->
  wpAny (model X.prog X.w) X.A (call (.builtin id) (v::c)) (EP X pins a Q) X.xe s
section
variable{X:Cx} {a b:Expr} {ta tb:TE} {pos:Pos}
theorem AS {r:R2} (c:jU X r) (d:PE X a ta) (e:PE X b tb) (f:Xz b):PE X (.Subscript a b pos) (Xu r ta tb):=by
 intro pins s g H Q I h
 exact Subscript_ (bB d e I h fun v u i x y j k l m q=>c a b pins i g j x y v u Q k l m q (f _ _))
inductive Zj (K:ACh) (x:V) (y:V) (H:Hp) (Q:VK):Prop
 |mk (p:_) (xs:_) (i:_) (v:_) (c:x=.ref p) (d:y=.int i) (e:Ah K H p xs) (f:OD xs i=some v) (g:Q v H):Zj K x y H Q
def CJ (K:ACh):R2:=fun x y H Q=>Zj K x y H Q
inductive Zk (K:ACh) (x:V) (y:V) (H:Hp) (Q:VK):Prop
 |mk (p:_) (xs:_) (i:_) (v:_) (c:x=.ref p) (d:y=.int i) (e:Bj K H p xs) (f:OD xs i=some v) (g:Q v H):Zk K x y H Q
def BD (K:ACh):R2:=fun x y H Q=>Zk K x y H Q
inductive Zl (x:V) (y:V) (H:Hp) (Q:VK):Prop
 |mk (z:_) (i:_) (c:_) (d:x=.str z) (e:y=.int i) (f:z.length<=sizeLine) (g:OD z.cps.toList i=some c) (h:Q (.str ⟨#[c]⟩) H):Zl x y H Q
def kx:R2:=fun x y H Q=>Zl x y H Q
theorem Aw:jU X (CJ X.K):=by
 intro value slice pins s k H x y v u Q I o A h l
 obtain⟨p,L,i,z,rfl,rfl,B,C,q⟩:=h
 cases o
 obtain⟨t,rfl⟩:=A
 obtain⟨d,r,e,M⟩:=I.list B
 obtain⟨j,c,D,N,E,F⟩:=JM C
 obtain⟨w,m,f⟩:=r.get D
 have G:=r.length
 have O:=IB
 have fin:EP X pins k Q w s:=⟨z,H,I,f,q⟩
 by_cases n:0<=i
 ·have g:i.toNat=j:=by
   rw[seqIndex_of n F]at c
   exact ACf c
  exact item_listR e.isList n (by lia) (by rw[g];simpa using m) fin l
 ·have g:(i+(d.toArray.size:Int)).toNat=j:=by
   rw[seqIndex_neg (by lia) E]at c
   rw[List.size_toArray,<-G]
   exact ACf c
  exact subscriptTail_builtinR (x:=w) e.isList.typeIs slot_list_getitem.lookup
   (wpAny_getItem_list_neg (Q:=fun r J=>r=w/\EP X pins k Q r J) e.isList (by lia) (by rw[List.size_toArray]<;>lia) (by lia) (by rw[g];simpa using m) ⟨rfl,fin⟩) l
theorem AY:jU X (BD X.K):=by
 intro value slice pins s d H x y v u Q I f g h k
 obtain⟨p,E,i,z,rfl,rfl,l,m,q⟩:=h
 cases f
 obtain⟨t,rfl⟩:=g
 obtain⟨n,r,e,F⟩:=I.tuple l
 obtain⟨j,o,A,G,J,L⟩:=JM m
 obtain⟨w,B,c⟩:=r.get A
 have C:=r.length
 have M:=IB
 have fin:EP X pins d Q w s:=⟨z,H,I,c,q⟩
 exact subscriptTail_builtinR (x:=w) e.typeIs slot_tuple_getitem.lookup
  (getItem_tuple (j:=j) (Q:=fun r D=>r=w/\EP X pins d Q r D) e (by lia) (by lia) (by rw[List.size_toArray,<-C];exact o) (by simpa using B) ⟨rfl,fin⟩) k
theorem QY:jU X kx:=by
 intro value slice pins s w H x y v u Q I e f h g
 obtain⟨z,i,c,rfl,rfl,A,k,q⟩:=h
 obtain⟨t,rfl⟩:=e
 obtain⟨B,rfl⟩:=f
 obtain⟨j,d,l,C,m,n⟩:=JM k
 have o:z.cps.toList.length=z.length:=by simp[Str.length]
 rw[o]at d m n
 have D:=IB
 exact tail_any (typeIs_str s z t) slot_str_getitem.lookup (getItem_str (c:=c) (by
  have p:decide (i< -(2 ^ 63:Int))=false:=decide_eq_false (by lia)
  have r:decide (i≥2 ^ 63)=false:=decide_eq_false (by lia)
  rw[p,r,Bool.or_false]) (by rw[d];simpa using l) ⟨.str ⟨#[c]⟩,H,I.tok _,⟨_,rfl⟩,q⟩) g
theorem QZ (its:List Value) (n j:Nat) (u:Value):Obj.mapSeq (·.setIfInBounds j u) {cls:=.type "list",data:=.seq its.toArray n}={cls:=.type "list",data:=.seq (its.set j u).toArray n}:=by
 simp[Obj.mapSeq]
theorem Inv.lst {pins:List (Addr×Obj)} {σ:St} {H:Hp} {s:Shared} {p:Addr} {xs:List V} (I:Inv X pins σ H s) (h:H p=some (.lst xs)):
  ∃(its:List Value) (n:Nat),Vals xs its/\s.heap.get? p=some {cls:=.type "list",data:=.seq its.toArray n}/\xs.length<=sizeLine:=by
 obtain⟨z,its,n,r,e⟩:=I.BO p _ h
 exact⟨its,n,r,e,z⟩
theorem Inv.bL {pins:List (Addr×Obj)} {σ:St} {H:Hp} {s:Shared} {p:Addr} {xs ys:List V} {its its':List Value} {n c:Nat} {f:Obj->Obj} (I:Inv X pins σ H s) (h:H p=some (.lst xs))
  (g:s.heap.get? p=some {cls:=.type "list",data:=.seq its.toArray n}) (d:f {cls:=.type "list",data:=.seq its.toArray n}={cls:=.type "list",data:=.seq its'.toArray c}) (r:Vals ys its') (i:ys.length<=sizeLine) (t:Nat):
  Inv X pins σ (upd H p (.lst ys)) {s with heap:=s.heap.update p f,toks:=t}:=by
 have e:(s.heap.update p f).get? p=some {cls:=.type "list",data:=.seq its'.toArray c}:=by
  rw[Heap.get?_update_self f g (by rw[d]<;>rfl),d]
 refine I.write (x:=p) (e:=p) (by rw[h];trivial) (.inl rfl) (fun b u j q=>(Heap.get?_update_other _ _ (Ne.symm j)).trans q) ⟨_,e⟩ ?_
 exact⟨i,its',c,r,e⟩
inductive VB (o:V) (i:V) (v:V) (H:Hp) (Q:(Hp->Prop)):Prop
 |mk (p:_) (xs:_) (k:_) (j:_) (c:o=.ref p) (d:i=.int k) (e:H p=some (.lst xs)) (f:QX xs.length k=some j) (g:Q (upd H p (.lst (xs.set j v)))):VB o i v H Q
def fh:V->V->V->Hp->(Hp->Prop)->Prop:=fun o i v H Q=>VB o i v H Q
theorem set_list:ew X fh:=by
 intro pins s z H o i v ov G u Q I A B C h
 obtain⟨p,D,k,j,rfl,rfl,l,E,q⟩:=h
 cases A
 obtain⟨t,rfl⟩:=B
 obtain⟨c,n,r,e,F⟩:=I.lst l
 obtain⟨d,J,m,w⟩:=Fn E
 have f:=r.length
 have K:=IB
 have x:Inv X pins z (upd H p (.lst (D.set j v))) {s with heap:=s.heap.update p (Obj.mapSeq (·.setIfInBounds j u))}:=
  I.bL l e (QZ c n j u) (r.set C j) (by rw[List.length_set];exact F) s.toks
 by_cases y:0<=k
 ·have g:k.toNat=j:=by
   rw[seqIndex_of y w]at d
   exact ACf d
  exact PySem.W.ki_setAt e y (by lia) (by rw[List.size_toArray,<-f];exact w) (by rw[g];exact⟨_,x,q⟩)
 ·have g:(k+(c.toArray.size:Int)).toNat=j:=by
   rw[seqIndex_neg (by lia) m]at d
   rw[List.size_toArray,<-f]
   exact ACf d
  exact PySem.W.ki_setBack e (by lia) (by rw[List.size_toArray,<-f];exact m) (by lia) (by rw[g];exact⟨_,x,q⟩)
theorem Mi (lo c:Option Int) (n:Nat):(sliceBounds lo c none n).1=((HT.FJ n 0 lo:Nat):Int)/\(sliceBounds lo c none n).2.1=((HT.FJ n n c:Nat):Int)/\(sliceBounds lo c none n).2.2=1:=by
 refine⟨?_,?_,rfl⟩
 ·cases lo with
  |none=>simp[sliceBounds,HT.FJ]
  |some i=>
   simp only[sliceBounds,HT.FJ,Option.getD_none,show(1:Int)>0 by decide,if_true]
   by_cases h:i<0
   ·simp only[h,if_true]<;>lia
   ·simp only[h,if_false]<;>lia
 ·cases c with
  |none=>simp[sliceBounds,HT.FJ]
  |some i=>
   simp only[sliceBounds,HT.FJ,Option.getD_none,show(1:Int)>0 by decide,if_true]
   by_cases h:i<0
   ·simp only[h,if_true]<;>lia
   ·simp only[h,if_false]<;>lia
theorem LJ (its:List Value) (lo c:Option Int):slicePick its.toArray lo c none=((its.drop (HT.FJ its.length 0 lo)).take (HT.FJ its.length its.length c-HT.FJ its.length 0 lo)).toArray:=by
 obtain⟨d,e,f⟩:=Mi lo c its.toArray.size
 unfold slicePick
 rw[d,e,f]
 simp only[sliceRange_one,pick_run,List.size_toArray]<;>rfl
inductive Zm (K:ACh) (x:V) (lo:Option Int) (c:Option Int) (H:Hp) (Q:VK):Prop
 |mk (a:_) (xs:_) (d:x=.ref a) (e:Ah K H a xs) (f:∀p,H p=none->Q (.ref p) (upd H p (.lst (GN xs lo c)))):Zm K x lo c H Q
def X_ (K:ACh):V->Option Int->Option Int->Hp->VK->Prop:=fun x lo c H Q=>Zm K x lo c H Q
theorem Mj:kv X (X_ X.K):=by
 intro pins s n H x v p t lo d u Q I f g i j h
 obtain⟨a,c,rfl,k,q⟩:=h
 cases f
 obtain⟨l,r,e,m⟩:=I.list k
 have hlen:=r.length
 refine⟨"list",_,slot_list_getitem.lookup,e.isList.typeIs,?_⟩
 refine wpAny_getItem_list_slice e.isList g i j .none (by simp) ?_ (by rw[List.size_toArray]<;>lia)
 rw[LJ,<-hlen]
 refine⟨.ref s.heap.objs.size,_,I.laid (t':=s.toks) (o:=.lst (GN c lo d)) (fun b w q=>Heap.get?_push_of_some _ q) (Nat.le_refl _) ?_,rfl,q _ (I.BO.fresh (Nat.le_refl _))⟩
 exact⟨Nat.le_trans (OC c lo d) m,_,0,(r.drop (HT.FJ c.length 0 lo)).take (HT.FJ c.length c.length d-HT.FJ c.length 0 lo),Heap.get?_push_size _ rfl⟩
def Cd:V->Bool
 | .BV=>true
 | .bl _=>true
 | .int _=>true
 | .str _=>true
 |_=>false
def OE:V->V->Bool
 | .BV,.BV=>true
 | .bl a,.bl b=>a==b
 | .bl a,.int b=>(if a then 1 else 0)==b
 | .int a,.bl b=>a==(if b then 1 else 0)
 | .int a,.int b=>a==b
 | .str a,.str b=>a==b
 |_,_=>false
theorem VC {A:Around} {s:Shared} {y x:V} {u v:Value} (e:RelV y u) (c:RelV x v) (g:Cd y=true) (f:Cd x=true):SeqAt.EqAt A s u v (OE y x):=by
 cases y with
 |BV=>
  cases e
  cases x with
  |BV=>cases c;exact SeqAt.EqAt.same _
  |bl b=>cases c;exact SeqAt.EqAt.none_bool b
  |int b=>obtain⟨t,rfl⟩:=c;exact SeqAt.EqAt.none_int b t
  |str b=>obtain⟨t,rfl⟩:=c;exact SeqAt.EqAt.none_str b t
  |_=>exact absurd (show false=true from f) Bool.false_ne_true
 |bl a=>
  cases e
  cases x with
  |BV=>cases c;exact SeqAt.EqAt.bool_none a
  |bl b=>cases c;exact SeqAt.EqAt.bool_bool a b
  |int b=>obtain⟨t,rfl⟩:=c;exact SeqAt.EqAt.bool_int a b t
  |str b=>obtain⟨t,rfl⟩:=c;exact SeqAt.EqAt.bool_str a b t
  |_=>exact absurd (show false=true from f) Bool.false_ne_true
 |int a=>
  obtain⟨d,rfl⟩:=e
  cases x with
  |BV=>cases c;exact SeqAt.EqAt.int_none a d
  |bl b=>cases c;exact SeqAt.EqAt.int_bool a d b
  |int b=>obtain⟨t,rfl⟩:=c;exact SeqAt.EqAt.int_int a d b t
  |str b=>obtain⟨t,rfl⟩:=c;exact SeqAt.EqAt.int_str a d b t
  |_=>exact absurd (show false=true from f) Bool.false_ne_true
 |str a=>
  obtain⟨d,rfl⟩:=e
  cases x with
  |BV=>cases c;exact SeqAt.EqAt.str_none a d
  |bl b=>cases c;exact SeqAt.EqAt.str_bool a d b
  |int b=>obtain⟨t,rfl⟩:=c;exact SeqAt.EqAt.str_int a d b t
  |str b=>obtain⟨t,rfl⟩:=c;exact SeqAt.EqAt.str_str a d b t
  |_=>exact absurd (show false=true from f) Bool.false_ne_true
 |_=>exact absurd (show false=true from g) Bool.false_ne_true
def Qa (x:V) (u:Value):Bool:=match u with
 | .none=>OE .BV x
 | .bool b=>OE (.bl b) x
 | .int i _=>OE (.int i) x
 | .str z _=>OE (.str z) x
 |_=>false
theorem VD {x y:V} {u:Value} (r:RelV y u) (f:Cd y=true):Qa x u=OE y x:=by
 cases y with
 |BV=>cases r;rfl
 |bl b=>cases r;rfl
 |int i=>obtain⟨t,rfl⟩:=r;rfl
 |str z=>obtain⟨t,rfl⟩:=r;rfl
 |_=>exact absurd (show false=true from f) Bool.false_ne_true
theorem Gi {x:V}:∀{xs:List V} {us:List Value},Vals xs us->xs.all Cd=true->us.any (Qa x)=xs.any fun y=>OE y x
 |_,_,.nil,_=>rfl
 |y::xs,u::us,.cons r t,f=>by
  rw[List.all_cons,Bool.and_eq_true]at f
  rw[List.any_cons,List.any_cons,VD r f.1,Gi t f.2]
theorem FK {A:Around} {s:Shared} {x:V} {v:Value} (d:RelV x v) (e:Cd x=true):∀{xs:List V} {us:List Value},Vals xs us->xs.all Cd=true->∀u∈us,SeqAt.EqAt A s u v (Qa x u)
 |_,_,.nil,_=>fun u c=>by cases c
 |y::xs,u::us,.cons r t,f=>fun u' c=>by
  rw[List.all_cons,Bool.and_eq_true]at f
  rcases List.mem_cons.mp c with rfl|c
  ·rw[VD r f.1];exact VC r d f.1 e
  ·exact FK d e t f.2 u' c
def Zn (x:V) (xs:List V):Bool:=xs.any fun y=>OE y x
inductive fj (K:ACh) (c:Bool) (x:V) (y:V) (H:Hp) (Q:VK):Prop
 |mk (p:_) (xs:_) (d:y=.ref p) (e:(Ah K H p xs∨Bj K H p xs)) (f:Cd x=true) (g:xs.all Cd=true) (h:Q (.bl (if c then !Zn x xs else Zn x xs)) H):fj K c x y H Q
def fk (K:ACh) (c:Bool):R2:=fun x y H Q=>fj K c x y H Q
theorem Lk:Dy X (compareOp .In) (fk X.K false):=by
 intro pins s k H x y v u Q I f i h
 obtain⟨p,l,rfl,d,g,fs,q⟩:=h
 cases i
 rcases d with d|d
 ·obtain⟨c,r,e,j⟩:=I.list d
  refine SeqAt.in_listAt (Qa x) e.isList (fun w hw=>FK f g r fs w (by simpa using hw)) ⟨.bl _,H,I,rfl,?_⟩
  rw[show c.toArray.any (Qa x)=c.any (Qa x)by simp,Gi r fs]
  exact q
 ·obtain⟨c,r,e,j⟩:=I.tuple d
  refine SeqAt.in_tupleAt (Qa x) e (fun w hw=>FK f g r fs w (by simpa using hw)) ⟨.bl _,H,I,rfl,?_⟩
  rw[show c.toArray.any (Qa x)=c.any (Qa x)by simp,Gi r fs]
  exact q
theorem Ml:Dy X (compareOp .NotIn) (fk X.K true):=by
 intro pins s k H x y v u Q I f i h
 obtain⟨p,l,rfl,d,g,fs,q⟩:=h
 cases i
 rcases d with d|d
 ·obtain⟨c,r,e,j⟩:=I.list d
  refine SeqAt.notIn_listAt (Qa x) e.isList (fun w hw=>FK f g r fs w (by simpa using hw)) ⟨.bl _,H,I,rfl,?_⟩
  rw[show c.toArray.any (Qa x)=c.any (Qa x)by simp,Gi r fs]
  exact q
 ·obtain⟨c,r,e,j⟩:=I.tuple d
  refine SeqAt.notIn_tupleAt (Qa x) e (fun w hw=>FK f g r fs w (by simpa using hw)) ⟨.bl _,H,I,rfl,?_⟩
  rw[show c.toArray.any (Qa x)=c.any (Qa x)by simp,Gi r fs]
  exact q
inductive I_ (x:V) (y:V) (H:Hp) (Q:VK):Prop
 |mk (i:_) (j:_) (c:x=.str i) (d:y=.str j) (e:Q (.bl (!(!(Builtin.Str.occurrences j i 0 j.length 1).isEmpty))) H):I_ x y H Q
inductive Ez (K:ACh) (xs:List V) (H:Hp) (Q:VK):Prop
 |mk (p:_) (ys:_) (c:xs=[.ref p]) (d:(Ah K H p ys∨Bj K H p ys)) (e:Q (.int ys.length) H):Ez K xs H Q
def FL (K:ACh):List V->Hp->VK->Prop:=fun c H Q=>Ez K c H Q
theorem Ae:BJ X (.builtin "len") (FL X.K):=by
 intro pins s k H l m Q I r h
 obtain⟨p,g,rfl,c,q⟩:=h
 obtain⟨u,rfl,i⟩:=vals1 r
 cases i
 have n:=IB
 rcases c with c|c
 ·obtain⟨d,e,f,j⟩:=I.list c
  have hlen:=e.length
  exact Calls.call_len_list f.isList (by simp only[List.size_toArray]<;>lia) ⟨.int g.length,H,I.tok _,⟨s.toks+1,by rw[List.size_toArray,hlen]⟩,q⟩
 ·obtain⟨d,e,f,j⟩:=I.tuple c
  have hlen:=e.length
  exact len_tuple f (by simp only[List.size_toArray]<;>lia) ⟨.int g.length,H,I.tok _,⟨s.toks+1,by rw[List.size_toArray,hlen]⟩,q⟩
inductive JA (xs:List V) (H:Hp) (Q:VK):Prop
 |mk (z:_) (c:xs=[.str z]) (d:z.length<=sizeLine) (e:Q (.int z.length) H):JA xs H Q
inductive E_ (K:ACh) (xs:List V) (H:Hp) (Q:VK):Prop
 |mk (p:_) (ys:_) (c:xs=[.ref p]) (d:(Ah K H p ys∨Bj K H p ys)) (e:∀l,H l=none->Q (.ref l) (upd H l (.lst ys))):E_ K xs H Q
def Ji (K:ACh):List V->Hp->VK->Prop:=fun c H Q=>E_ K c H Q
theorem Ck:BJ X (.type "list") (Ji X.K):=by
 intro pins s z H B C Q I r h
 obtain⟨p,l,rfl,i,q⟩:=h
 obtain⟨u,rfl,A⟩:=vals1 r
 cases A
 have fin:∀(c:List Value),Vals l c->l.length<=sizeLine->∀(d:Heap) (f:Nat),(∀b y,s.heap.get? b=some y->d.get? b=some y)->
   d.get? s.heap.objs.size=some {cls:=.type "list",dict:=none,data:=.seq c.toArray f,slots:= #[]}->EP X pins z Q (.ref s.heap.objs.size) {s with heap:=d}:=fun c g j d f k e=>
  ⟨.ref s.heap.objs.size,_,I.laid (t':=s.toks) k (Nat.le_refl _) (show Ay X.prog X.w _ d _ (.lst l)from⟨j,c,f,g,e⟩),rfl,q _ (I.BO.fresh (Nat.le_refl _))⟩
 rcases i with i|i
 ·obtain⟨c,g,m,j⟩:=I.list i
  have hlen:=g.length
  obtain⟨o,t,v,n,x⟩:=m.isList
  exact call_list_seq p (.inl rfl) t v x (fun d f k e=>fin c g j d f k e) (by simp only[List.size_toArray]<;>lia)
 ·obtain⟨c,g,m,j⟩:=I.tuple i
  have hlen:=g.length
  obtain⟨o,t,v,n,x⟩:=m
  exact call_list_seq p (.inr rfl) t v x (fun d f k e=>fin c g j d f k e) (by simp only[List.size_toArray]<;>lia)
inductive EF (K:ACh) (xs:List V) (H:Hp) (Q:VK):Prop
 |mk (p:_) (ys:_) (c:xs=[.ref p]) (d:((Ah K H p ys/\∀l,H l=none->Q (.ref l) (upd H l (.tup ys)))∨(Bj K H p ys/\Q (.ref p) H))):EF K xs H Q
def JB (K:ACh):List V->Hp->VK->Prop:=fun c H Q=>EF K c H Q
theorem LK:BJ X (.type "tuple") (JB X.K):=by
 intro pins s j H x y Q I r h
 obtain⟨p,k,rfl,h⟩:=h
 obtain⟨u,rfl,n⟩:=vals1 r
 cases n
 rcases h with⟨f,q⟩|⟨f,q⟩
 ·obtain⟨c,g,i,l⟩:=I.list f
  have hlen:=g.length
  refine call_tuple_list i.isList (fun d t=>?_) (by simp only[List.size_toArray]<;>lia)
  have m:Inv X pins j H {s with heap:=d}:=I.kept (t':=s.toks) t
  have v:Inv X pins j (upd H d.objs.size (.tup k)) {s with heap:=d.push {cls:=.type "tuple",data:=.seq c.toArray}}:=
   m.laid (t':=s.toks) (fun b o e=>Heap.get?_push_of_some _ e) (Nat.le_refl _) (show Ay X.prog X.w _ _ _ (.tup k)from⟨l,c,g,IsTup.new _ _⟩)
  exact⟨.ref d.objs.size,_,v,rfl,q _ (m.BO.fresh (Nat.le_refl _))⟩
 ·obtain⟨c,g,i,l⟩:=I.tuple f
  exact call_tuple_same i ⟨.ref p,H,I,rfl,q⟩
def ky (K:ACh) (T:String) (x:V) (H:Hp):Prop:=match x with
 | .str _=>T="str"
 | .int _=>T="int"
 | .ref p=>(T="list"/\∃c,Ah K H p c)∨(T="tuple"/\∃o,K.lookup p=some o/\o.cls=.type "tuple"/\o.dict=none)∨
   (T="dict"/\((∃kvs,H p=some (.dK kvs))∨∃kvs,H p=some (.dT kvs)))∨(T="set"/\∃S n,H p=some (.set S n))
 |_=>False
theorem VE {pins:List (Addr×Obj)} {σ:St} {H:Hp} {s:Shared} {T:String} {x:V} {v:Value} (I:Inv X pins σ H s) (r:RelV x v) (ty:ky X.K T x H):
  s.TypeIs v T/\∀a,v=.ref a->∃j,s.heap.get? a=some j/\j.dict=none:=by
 cases x with
 |str z=>
  obtain⟨t,rfl⟩:=r
  cases(show T="str"from ty)
  exact⟨typeIs_str s z t,fun _ e=>nomatch e⟩
 |int i=>
  obtain⟨t,rfl⟩:=r
  cases(show T="int"from ty)
  exact⟨typeIs_int s i t,fun _ e=>nomatch e⟩
 |ref p=>
  cases r
  rcases ty with⟨rfl,u,l⟩|⟨rfl,o,d,m,g⟩|⟨rfl,d⟩|⟨rfl,S,n,d⟩
  ·obtain⟨q,_,k,_⟩:=I.list l
   refine⟨k.isList.typeIs,fun a e=>?_⟩
   cases e
   obtain⟨o,n,e,c,g,_⟩:=k
   exact⟨o,e,g⟩
  ·refine⟨⟨o,I.Gf p o d,m⟩,fun a e=>?_⟩
   cases e
   exact⟨o,I.Gf _ o d,g⟩
  ·have z:∃o,s.heap.get? p=some o/\o.ExactDict:=by
    rcases d with⟨kvs,d⟩|⟨kvs,d⟩
    ·obtain⟨_,_,_,_,o,_,_,e,f,_⟩:=I.BO p _ d
     exact⟨o,e,f⟩
    ·obtain⟨_,_,_,_,o,_,_,e,f,_⟩:=I.BO p _ d
     exact⟨o,e,f⟩
   obtain⟨o,e,f⟩:=z
   refine⟨⟨o,e,f.1⟩,fun a h=>?_⟩
   cases h
   exact⟨o,e,f.2.1⟩
  ·obtain⟨o,_,_,_,e,f,_⟩:=I.BO p _ d
   refine⟨⟨o,e,f.1⟩,fun a h=>?_⟩
   cases h
   exact⟨o,e,f.2.1⟩
 |_=>exact False.elim ty
def k_ (K:ACh) (T:String) (r:V->List V->Hp->VK->Prop) (d:TE):TE:=fun e H Q=>d e H fun x c=>ky K T x c/\r x [] c Q
def we (K:ACh) (T:String) (r:V->List V->Hp->VK->Prop) (e:TE) (t:TA):TE:=fun c H Q=>e c H fun x d=>ky K T x d/\t c d fun f g=>r x f g Q
variable{o e:Expr} {es:List Expr} {to:TE} {t:TA} {name:Str} {apos Dk:Pos} {T id:String} {r:V->List V->Hp->VK->Prop}
theorem VF (k:PlainAttrs T) (slot:Slot T name id) (f:typeOf (.builtin id)=pure (.type "method_descriptor")) (l:tK X id r) (m:PE X o to)
  (c:attributeBase o name X.env (eval o X.env)=eval o X.env:=by rfl) (d:(apos.endLine==Dk.line)=true:=by rfl):PE X (.Call (.Attribute o name apos) [] [] Dk) (k_ X.K T r to):=by
 intro pins s g H Q I h
 refine wpAny_Call_method0_late c d (Bo (m pins s g H _ I h) fun v n ⟨x,p,i,j,ty,q⟩=>?_)
 obtain⟨u,w⟩:=VE i j ty
 exact⟨T,id,k,slot,f,u,w,Calls.callWith_builtin rfl (PySem.evalArgs_none (l pins n g p x [] v [] Q i j .nil q))⟩
theorem Gj (m:PlainAttrs T) (slot:Slot T name id) (i:typeOf (.builtin id)=pure (.type "method_descriptor")) (n:tK X id r) (p:PE X o to) (q:PA X (e::es) t)
  (d:attributeBase o name X.env (eval o X.env)=eval o X.env:=by rfl)
  (g:((backTo Dk (starEach (e::es) X.env)).all (fun x=> !x.1)&&(backToKw Dk (keywordEach [] X.env)).all (fun x=>x.1.isSome)
   &&decide ((e::es).length+([]:List Keyword).length+(if([]:List Keyword).isEmpty then 0 else 1)<30))=true:=by rfl)
  (f:(apos.endLine==Dk.line)=true:=by rfl) (u:starEach (e::es) X.env=(false,eval e X.env)::starEach es X.env:=by rfl) (c:(backTo Dk (starEach es X.env)).any (·.1)=false:=by rfl):
  PE X (.Call (.Attribute o name apos) (e::es) [] Dk) (we X.K T r to t):=by
 intro pins s j H Q I h
 refine wpAny_Call_method_late d g f rfl (Bo (p pins s j H _ I h) fun v w ⟨x,y,k,l,ty,z⟩=>?_)
 obtain⟨A,B⟩:=VE k l ty
 refine⟨T,id,m,slot,i,A,B,?_⟩
 have hA:=q Dk pins w j y _ k z
 rw[u]at hA⊢
 refine Calls.callWith_builtin (by show(false||(backTo Dk (starEach es X.env)).any (·.1))=false;rw[c]<;>rfl) (Calls.evalArgs_plain ?_)
 exact Bo hA fun C D E=>E.elim fun F G J L M=>n pins D j G x F v C Q J l L M
end
def fm (X:Cx) (id:String) (r:V->List V->Hp->VK->Prop):Prop:=
 ∀(pins:List (Addr×Obj)) (s:Shared) (a:St) (H:Hp) (x:V) (b:List V) (v:Value) (c:List Value) (Q:VK),Inv X pins a H s->RelV x v->Vals b c->r x b H Q->
  wpAny (model X.prog X.w) X.A (call (.builtin id) (v::c)) (EP X pins a Q) X.xe s
theorem Vals.zero {us:List Value} (r:Vals [] us):us=[]:=List.eq_nil_of_length_eq_zero (Paired.length r).symm
theorem Vals.one {x:V} {us:List Value} (r:Vals [x] us):∃u,us=[u]/\RelV x u:=by
 obtain⟨u,a,rfl,h,t⟩:=r.inv
 rw[t.zero]
 exact⟨u,rfl,h⟩
theorem Vals.dropLast {xs:List V} {us:List Value} (h:Vals xs us):Vals xs.dropLast us.dropLast:=by
 induction h with
 |nil=>exact .nil
 |cons r t a=>
  cases t with
  |nil=>exact .nil
  |cons q b=>exact .cons r a
theorem Vals.eraseIdx:∀{xs:List V} {us:List Value} (i:Nat),Vals xs us->Vals (xs.eraseIdx i) (us.eraseIdx i)
 |_,_,_,.nil=>.nil
 |_,_,0,.cons _ t=>t
 |_,_,i+1,.cons r t=>.cons r (Vals.eraseIdx i t)
theorem Vals.rep {xs:List V} {us:List Value} (h:Vals xs us):∀k:Nat,Vals (List.replicate k xs).flatten (List.replicate k us).flatten
 |0=>.nil
 |k+1=>by
  rw[List.replicate_succ,List.replicate_succ,List.flatten_cons,List.flatten_cons]
  exact Vals.append h (Vals.rep h k)
theorem Qb {a:Type} (l:List a):l.eraseIdx (l.length-1)=l.dropLast:=List.eraseIdx_length_sub_one
theorem Ll {a:Type}:∀(l:List a) (i:Nat),(l.eraseIdx i).length<=l.length
 |[],_=>Nat.le_refl _
 |_::_,0=>Nat.le_succ _
 |_::r,i+1=>Nat.succ_le_succ (Ll r i)
theorem foldl_rep (its:List Value):∀(k:Nat) (a:List Value),
  List.foldl (fun b c=>b++c) a.toArray (List.replicate k its.toArray)=(a++(List.replicate k its).flatten).toArray
 |0,a=>by simp
 |k+1,a=>by
  have e:a.toArray++its.toArray=(a++its).toArray:=by simp
  have d:(a++its)++(List.replicate k its).flatten=a++(List.replicate (k+1) its).flatten:=by
   rw[List.replicate_succ,List.flatten_cons,List.append_assoc]
  rw[<-d,<-foldl_rep its k (a++its),<-e,List.replicate_succ,List.foldl_cons]
section
variable{X:Cx} {pins:List (Addr×Obj)} {σ:St} {H:Hp} {s:Shared} {l b:Addr} {xs ys zs:List V}
theorem Inv.X' {its its':List Value} {n:Nat} {f:Array Value->Array Value} {t':Nat} (I:Inv X pins σ H s) (a:H l=some (.lst xs))
  (e:s.heap.get? l=some {cls:=.type "list",data:=.seq its.toArray n}) (c:f its.toArray=its'.toArray) (d:Vals ys its') (g:ys.length<=sizeLine):
  Inv X pins σ (upd H l (.lst ys)) {s with heap:=s.heap.update l (Obj.mapSeq f),toks:=t'}:=by
 have q:=PySem.IsL.update e f
 rw[c]at q
 refine I.write (x:=l) (e:=l) (by rw[a];exact trivial) (.inl rfl) (fun j u h i=>(Heap.get?_update_other s.heap (Obj.mapSeq f) (Ne.symm h)).trans i) ⟨_,q⟩ ?_
 exact⟨g,its',_,d,q⟩
theorem Inv.YA {its:List Value} {t':Nat} (I:Inv X pins σ H s) (a:Vals ys its) (hz:ys.length<=sizeLine):
  Inv X pins σ (upd H s.heap.objs.size (.lst ys)) {s with heap:=s.heap.push {cls:=.type "list",data:=.seq its.toArray},toks:=t'}:=
 I.laid (fun _ _ q=>Heap.get?_push_of_some _ q) (Nat.le_refl _) ⟨hz,its,0,a,Heap.get?_push_size _ rfl⟩
theorem Inv.fresh (I:Inv X pins σ H s):H s.heap.objs.size=none:=I.BO.fresh (Nat.le_refl _)
theorem Inv.OF (I:Inv X pins σ H s) (a:H l=some (.lst xs)):xs.length<=sizeLine/\∃(its:List Value) (n:Nat),Vals xs its/\xs.length=its.length/\s.heap.get? l=some {cls:=.type "list",data:=.seq its.toArray n}:=by
 obtain⟨z,its,n,r,e⟩:=I.BO l _ a
 exact⟨z,its,n,r,r.length,e⟩
theorem OG {n:Nat} (h:n<=sizeLine):Builtin.List.listTooLong n=false:=by
 unfold Builtin.List.listTooLong
 exact decide_eq_false (by lia)
end
section
variable{X:Cx}
inductive OH (x:V) (vs:List V) (H:Hp) (Q:VK):Prop
 |mk (l:_) (xs:_) (y:_) (a:x=.ref l) (b:vs=[y]) (c:H l=some (.lst xs)) (d:xs.length<sizeLine) (e:Q .BV (upd H l (.lst (xs++[y])))):OH x vs H Q
def YB:V->List V->Hp->VK->Prop:=fun x a H Q=>OH x a H Q
theorem EG:fm X "list.append" YB:=by
 intro pins s g H x i v j Q I c d h
 obtain⟨l,k,y,rfl,rfl,b,m,q⟩:=h
 cases c
 obtain⟨u,rfl,f⟩:=d.one
 obtain⟨z,a,n,r,o,e⟩:=I.OF b
 refine call_meets F.slot_list_append ⟨_,e,rfl⟩ F.entry_list_append (F.args_list_append_2 _ _) (PySem.list_append l a.toArray n u (by rw[List.size_toArray];lia)) ⟨e,?_⟩
 refine⟨.BV,_,I.X' (its':=a++[u]) b e (by simp) (r.append (.cons f .nil)) ?_,rfl,q⟩
 rw[List.length_append,List.length_singleton]
 lia
inductive OI (x:V) (vs:List V) (H:Hp) (Q:VK):Prop
 |mk (l:_) (b:_) (xs:_) (zs:_) (a:x=.ref l) (c:vs=[.ref b]) (d:H l=some (.lst xs)) (e:H b=some (.lst zs)) (f:xs.length+zs.length<=sizeLine) (g:Q .BV (upd H l (.lst (xs++zs)))):OI x vs H Q
def YC:V->List V->Hp->VK->Prop:=fun x a H Q=>OI x a H Q
theorem Ta:fm X "list.extend" YC:=by
 intro pins s y H x A v B Q I i j h
 obtain⟨l,b,C,D,rfl,rfl,g,k,E,q⟩:=h
 cases i
 obtain⟨u,rfl,m⟩:=j.one
 cases m
 obtain⟨z,c,n,r,G,e⟩:=I.OF g
 obtain⟨z2,a,o,p,t,w⟩:=I.OF k
 have f:c.toArray.size+a.toArray.size<=sizeLine:=by rw[List.size_toArray,List.size_toArray];lia
 have d:¬(!c.toArray.isEmpty&&Builtin.List.listTooLong (c.toArray.size+a.toArray.size))=true:=by
  rw[OG f,Bool.and_false]
  exact Bool.false_ne_true
 refine call_meets F.slot_list_extend ⟨_,e,rfl⟩ F.entry_list_extend (F.args_list_extend_2 _ _)
  (AutoSeq1.list_extend_list_list_0 l c.toArray n b a.toArray o d (by rw[List.size_toArray];lia) (by lia)) ⟨e,w,?_⟩
 refine⟨.BV,_,I.X' (its':=c++a) g e (by simp) (r.append p) ?_,rfl,q⟩
 rw[List.length_append]
 lia
inductive Zo (x:V) (vs:List V) (H:Hp) (Q:VK):Prop
 |mk (l:_) (xs:_) (y:_) (a:x=.ref l) (b:vs=[]) (c:H l=some (.lst xs)) (d:xs[xs.length-1]?=some y) (e:Q y (upd H l (.lst xs.dropLast))):Zo x vs H Q
def lA:V->List V->Hp->VK->Prop:=fun x a H Q=>Zo x a H Q
theorem bM:fm X "list.pop" lA:=by
 intro pins s o H x p v t Q I f g h
 obtain⟨l,w,y,rfl,rfl,d,i,q⟩:=h
 cases f
 have b:=g.zero
 subst b
 obtain⟨z,a,n,r,j,e⟩:=I.OF d
 obtain⟨u,k,m⟩:=r.get i
 have c:a.toArray[a.toArray.size-1]?=some u:=by
  show a.toArray[a.length-1]?=some u
  rw[<-Array.getElem?_toList,<-j]
  exact k
 refine call_meets F.slot_list_pop ⟨_,e,rfl⟩ F.entry_list_pop (F.args_list_pop_1 _) (MeetsSeq.list_pop_last l a.toArray n u c (by rw[List.size_toArray];lia)) ⟨e,?_⟩
 refine⟨y,_,I.X' (its':=a.dropLast) d e ?_ r.dropLast ?_,m,q⟩
 ·show a.toArray.eraseIdxIfInBounds (a.toArray.size-1)=a.dropLast.toArray
  rw[List.size_toArray,List.eraseIdxIfInBounds_toArray,Qb]
 ·rw[List.length_dropLast]
  lia
inductive Rr (x:V) (vs:List V) (H:Hp) (Q:VK):Prop
 |mk (l:_) (xs:_) (i:_) (k:_) (y:_) (a:x=.ref l) (b:vs=[.int i]) (c:H l=some (.lst xs)) (d: -(2 ^ 63)<=i) (e:i<2 ^ 63) (f:seqIndex? i xs.length=some k) (g:xs[k]?=some y) (h:Q y (upd H l (.lst (xs.eraseIdx k)))):Rr x vs H Q
def bN:V->List V->Hp->VK->Prop:=fun x a H Q=>Rr x a H Q
theorem Gk:fm X "list.pop" bN:=by
 intro pins s C H x D v E Q I d f h
 obtain⟨l,g,i,k,y,rfl,rfl,c,j,m,o,p,q⟩:=h
 cases d
 obtain⟨u,rfl,A⟩:=f.one
 obtain⟨t,rfl⟩:=A
 obtain⟨z,a,n,r,B,e⟩:=I.OF c
 obtain⟨w,hw,b⟩:=r.get p
 refine call_meets F.slot_list_pop ⟨_,e,rfl⟩ F.entry_list_pop (F.args_list_pop_2 _ _)
  (MeetsSeq.list_pop_at l a.toArray n i t k w (fitsIndex_both j m) (by rw[List.size_toArray,<-B];exact o) (by rw[<-Array.getElem?_toList];exact hw) (by rw[List.size_toArray];lia)) ⟨e,?_⟩
 refine⟨y,_,I.X' (its':=a.eraseIdx k) c e ?_ (r.eraseIdx k) ?_,b,q⟩
 ·show a.toArray.eraseIdxIfInBounds k=(a.eraseIdx k).toArray
  rw[List.eraseIdxIfInBounds_toArray]
 ·have:=Ll g k
  lia
inductive Tb (x:V) (vs:List V) (H:Hp) (Q:VK):Prop
 |mk (l:_) (xs:_) (a:x=.ref l) (b:vs=[]) (c:H l=some (.lst xs)) (d:Q .BV (upd H l (.lst xs.reverse))):Tb x vs H Q
inductive YD (x:V) (vs:List V) (H:Hp) (Q:VK):Prop
 |mk (l:_) (xs:_) (a:x=.ref l) (b:vs=[]) (c:H l=some (.lst xs)) (d:Q .BV (upd H l (.lst []))):YD x vs H Q
inductive Zp (x:V) (y:V) (H:Hp) (Q:VK):Prop
 |mk (l:_) (b:_) (xs:_) (zs:_) (a:x=.ref l) (c:y=.ref b) (d:H l=some (.lst xs)) (e:H b=some (.lst zs)) (f:xs.length+zs.length<=sizeLine) (g:∀p,H p=none->Q (.ref p) (upd H p (.lst (xs++zs)))):Zp x y H Q
def fo:R2:=fun x y H Q=>Zp x y H Q
theorem Qc:Dy X (binaryOp .Add) fo:=by
 intro pins s p H x y v u Q I d f h
 obtain⟨l,b,t,w,rfl,rfl,g,i,A,q⟩:=h
 cases d
 cases f
 obtain⟨z,c,n,r,B,e⟩:=I.OF g
 obtain⟨z2,a,C,j,k,m⟩:=I.OF i
 refine PySem.P.add_list e m ?_ (by rw[List.size_toArray,List.size_toArray];lia)
 have o:c.toArray++a.toArray=(c++a).toArray:=by simp
 rw[o]
 exact⟨.ref _,_,I.YA (t':=s.toks) (r.append j) (by rw[List.length_append];lia),rfl,q _ I.fresh⟩
inductive Zq (x:V) (y:V) (H:Hp) (Q:VK):Prop
 |mk (l:_) (k:_) (xs:_) (a:x=.ref l) (b:y=.int k) (c:H l=some (.lst xs)) (d: -(2 ^ 63)<=k) (e:k<2 ^ 63) (f:xs.length*k.toNat<=sizeLine) (g:∀p,H p=none->Q (.ref p) (upd H p (.lst (List.replicate k.toNat xs).flatten))):Zq x y H Q
def fq:R2:=fun x y H Q=>Zq x y H Q
theorem len_rep {a:Type} (xs:List a) (k:Nat):(List.replicate k xs).flatten.length=k*xs.length:=by
 induction k with
 |zero=>simp
 |succ k b=>rw[List.replicate_succ,List.flatten_cons,List.length_append,b,Nat.succ_mul,Nat.add_comm]
theorem VG:Dy X (binaryOp .Mult) fq:=by
 intro pins s J H x y v u Q I p w h
 obtain⟨l,k,K,rfl,rfl,A,B,C,o,q⟩:=h
 cases p
 obtain⟨t,rfl⟩:=w
 obtain⟨z,b,n,r,D,e⟩:=I.OF A
 have hlen:b.toArray.size*k.toNat<=sizeLine:=by rw[List.size_toArray,<-D];exact o
 have d:¬b.toArray.size*k.toNat>(2 ^ 63-1)/8:=by
  have:(sizeLine:Nat)<=(2 ^ 63-1)/8:=by decide
  lia
 have f:¬(!Builtin.List.listFitsIndex k)=true:=by
  rw[fitsIndex_both B C]
  exact Bool.false_ne_true
 have c:¬Builtin.List.listTooLong (b.toArray.size*k.toNat)=true:=by
  rw[OG hlen]
  exact Bool.false_ne_true
 have g:List.foldl (fun i j=>i++j) #[] (List.replicate (if b.toArray.isEmpty=true then 0 else k.toNat) b.toArray)=(List.replicate k.toNat b).flatten.toArray:=by
  have E:∀m:Nat,List.foldl (fun i j=>i++j) #[] (List.replicate m b.toArray)=(List.replicate m b).flatten.toArray:=fun m=>by
   have:=foldl_rep b m []
   rw[List.nil_append]at this
   exact this
  rw[E]
  cases b with
  |nil=>simp
  |cons a L=>rw[if_neg (by simp)]
 refine wpAny_binaryOp_repeat_ref (T:="list") (U:="int") (by decide) ⟨_,e,rfl⟩ (fun G=>typeIs_int G k t) noFill_list_mul F.fills_int_mul F.slot_int_rmul repeat_list F.slot_int_index.lookup
  (call_meets F.slot_int_rmul (typeIs_int s k t) F.entry_int_rmul (F.args_int_rmul_2 _ _) (int___rmul___int_list k t l b.toArray n)
   ⟨e,rfl,⟨_,e,rfl⟩,call_meets F.slot_list_mul ⟨_,e,rfl⟩ F.entry_list_mul (F.args_list_mul_2 _ _) (AutoListH.list___mul___list_int_3 l b.toArray n k t f d c) ⟨e,?_⟩⟩)
 rw[g]
 exact⟨.ref _,_,I.YA (t':=s.toks) (r.rep k.toNat) (by rw[len_rep,Nat.mul_comm];exact o),rfl,q _ I.fresh⟩
end
section
variable{prog:Program} {w:World} {A:Around} {E:Value->Shared->Prop} {s:Shared}
end
section
variable{X:Cx}
end
section
variable{κ:Type} [DecidableEq κ]
def CS (kvs:List (κ×V)) (k:κ):Option V:=(kvs.find? fun a=>decide (a.1=k)).map (·.2)
def putK (kvs:List (κ×V)) (k:κ) (v:V):List (κ×V):=
 if(kvs.any fun a=>decide (a.1=k))=true then kvs.map (fun a=>if a.1=k then(a.1,v)else a)else kvs++[(k,v)]
def E' (kvs:List (κ×V)) (k:κ):List (κ×V):=kvs.filter fun a=>decide (a.1≠k)
theorem DV {p:κ×V} {r:List (κ×V)} {k:κ} (e:p.1=k):CS (p::r) k=some p.2:=by simp[CS,List.find?_cons,e]
theorem DW {p:κ×V} {r:List (κ×V)} {k:κ} (e:¬p.1=k):CS (p::r) k=CS r k:=by simp[CS,List.find?_cons,e]
theorem DB (k:κ):∀kvs:List (κ×V),(kvs.any fun a=>decide (a.1=k))=(CS kvs k).isSome
 |[]=>rfl
 |p::r=>by
  rw[List.any_cons]
  by_cases e:p.1=k
  ·simp only[DV e,decide_eq_true e,Bool.true_or,Option.isSome_some]
  ·rw[DW e,decide_eq_false e,Bool.false_or];exact DB k r
theorem FN (kvs:List (κ×V)) (k:κ) (v:V):(putK kvs k v).length<=kvs.length+1:=by
 unfold putK
 split
 ·rw[List.length_map];lia
 ·rw[List.length_append,List.length_cons,List.length_nil];lia
theorem OJ {kvs:List (κ×V)} {k:κ} (v:V) (h:CS kvs k=none):putK kvs k v=kvs++[(k,v)]:=by
 unfold putK
 rw[DB,h]
 exact if_neg (by decide)
theorem Iv.EH {o:Option V} {u:Option Value} (r:Iv o u):o.isSome=u.isSome:=by
 cases o with
 |none=>cases u with
  |none=>rfl
  |some _=>exact(show False from r).elim
 |some _=>cases u with
  |none=>exact(show False from r).elim
  |some _=>rfl
theorem KV.val {kvs:List (κ×V)} {vs:List (κ×Value)} (r:KV kvs vs) (k:κ):Iv (CS kvs k) (valueAt vs k):=by
 unfold KV at r
 induction r with
 |nil=>exact True.intro
 |@cons p q i a h t f=>
  obtain⟨d,g⟩:=h
  by_cases e:p.1=k
  ·have c:q.1=k:=d.symm.trans e
   have b:valueAt (q::a) k=some q.2:=by simp[valueAt,List.find?_cons,c]
   rw[DV e,b];exact g
  ·have c:¬q.1=k:=fun z=>e (d.trans z)
   have b:valueAt (q::a) k=valueAt a k:=by simp[valueAt,List.find?_cons,c]
   rw[DW e,b];exact f
theorem KV.any {kvs:List (κ×V)} {vs:List (κ×Value)} (r:KV kvs vs) (k:κ):(kvs.any fun a=>decide (a.1=k))=vs.any fun a=>decide (a.1=k):=by
 unfold KV at r
 induction r with
 |nil=>rfl
 |cons h t b=>rw[List.any_cons,List.any_cons,b,h.1]
theorem KV.bO {kvs:List (κ×V)} {vs:List (κ×Value)} (r:KV kvs vs) (k:κ) {y:V} {u:Value} (c:RelV y u):
  KV (kvs.map fun a=>if a.1=k then(a.1,y)else a) (vs.map fun a=>if a.1=k then(a.1,u)else a):=by
 unfold KV at r⊢
 induction r with
 |nil=>exact .nil
 |@cons p q g i h t d=>
  rw[List.map_cons,List.map_cons]
  refine .cons ?_ d
  obtain⟨b,f⟩:=h
  by_cases e:p.1=k
  ·rw[if_pos e,if_pos (b.symm.trans e)];exact⟨b,c⟩
  ·rw[if_neg e,if_neg (fun z=>e (b.trans z))];exact⟨b,f⟩
theorem KV.put {kvs:List (κ×V)} {vs:List (κ×Value)} (r:KV kvs vs) (k:κ) {y:V} {u:Value} (a:RelV y u):KV (putK kvs k y) (stored vs k u):=by
 unfold putK stored
 rw[r.any k]
 by_cases e:(vs.any fun b=>decide (b.1=k))=true
 ·rw[if_pos e,if_pos e];exact r.bO k a
 ·rw[if_neg e,if_neg e];exact Paired.snoc r ⟨rfl,a⟩
theorem KV.drop {kvs:List (κ×V)} {vs:List (κ×Value)} (r:KV kvs vs) (k:κ):KV (E' kvs k) (without vs k):=by
 unfold KV at r⊢
 unfold E' without
 induction r with
 |nil=>exact .nil
 |@cons p q i j h t d=>
  obtain⟨c,f⟩:=h
  rw[List.filter_cons,List.filter_cons]
  by_cases e:p.1=k
  ·have a:¬decide (p.1≠k)=true:=by simp[e]
   have b:¬decide (q.1≠k)=true:=by simp[c.symm.trans e]
   rw[if_neg a,if_neg b];exact d
  ·have g:¬q.1=k:=fun z=>e (c.trans z)
   have a:decide (p.1≠k)=true:=by simp[e]
   have b:decide (q.1≠k)=true:=by simp[g]
   rw[if_pos a,if_pos b];exact .cons ⟨c,f⟩ d
theorem KV.keys {kvs:List (κ×V)} {vs:List (κ×Value)} (r:KV kvs vs):kvs.map (·.1)=vs.map (·.1):=by
 unfold KV at r
 induction r with
 |nil=>rfl
 |cons h t a=>rw[List.map_cons,List.map_cons,a,h.1]
theorem KV.length {kvs:List (κ×V)} {vs:List (κ×Value)} (r:KV kvs vs):kvs.length=vs.length:=Paired.length r
theorem VH (kvs:List (κ×V)) (k:κ):(E' kvs k).length<=kvs.length:=List.length_filter_le _ _
end
theorem Gm {P:Program} {w:World} {k:Key} {u:Value} (r:RelV (kV k) u):(Am P w).is k u=true:=by
 cases k with
 |inl i=>obtain⟨t,e⟩:=(show∃t,u=Value.int i t from r);subst e;exact Np P w i t
 |inr x=>obtain⟨t,e⟩:=(show∃t,u=Value.str x t from r);subst e;exact Nq P w x t
theorem Lm {P:Program} {w:World}:∀{ks:List Key} {us:List Value},Vals (ks.map kV) us->ItemsAre (Am P w) ks us
 |[],_,r=>by rw[List.map_nil]at r;cases r;exact .nil
 |k::ks,_,r=>by
  rw[List.map_cons]at r
  cases r with
  |cons h t=>exact .cons (Gm h) (Lm t)
abbrev KT (H:Hp):List (List Key×V)->List (List Key×Addr×Value)->Prop:=Paired fun p q=>p.1=q.1/\H q.2.1=some (.tup (p.1.map kV))/\RelV p.2 q.2.2
theorem KT.val {H:Hp} {kvs:List (List Key×V)} {xs:List (List Key×Addr×Value)} (r:KT H kvs xs) (k:List Key):Iv (CS kvs k) ((atKey xs k).map (·.2)):=by
 induction r with
 |nil=>exact True.intro
 |@cons p q i a h t f=>
  obtain⟨d,_,g⟩:=h
  by_cases e:p.1=k
  ·have c:q.1=k:=d.symm.trans e
   have b:atKey (q::a) k=some q.2:=by simp[atKey,List.find?_cons,c]
   rw[DV e,b];exact g
  ·have c:¬q.1=k:=fun z=>e (d.trans z)
   have b:atKey (q::a) k=atKey a k:=by simp[atKey,List.find?_cons,c]
   rw[DW e,b];exact f
theorem KT.bO {H:Hp} {kvs:List (List Key×V)} {xs:List (List Key×Addr×Value)} (r:KT H kvs xs) (k:List Key) {y:V} {u:Value} (d:RelV y u):
  KT H (kvs.map fun b=>if b.1=k then(b.1,y)else b) (xs.map (putAt k u)):=by
 induction r with
 |nil=>exact .nil
 |@cons p q i j h t f=>
  rw[List.map_cons,List.map_cons]
  refine .cons ?_ f
  obtain⟨a,c,g⟩:=h
  unfold putAt
  by_cases e:p.1=k
  ·rw[if_pos e,if_pos (a.symm.trans e)];exact⟨a,c,d⟩
  ·rw[if_neg e,if_neg (fun z=>e (a.trans z))];exact⟨a,c,g⟩
theorem KT.put {H:Hp} {kvs:List (List Key×V)} {xs:List (List Key×Addr×Value)} (r:KT H kvs xs) (k:List Key) {b:Addr} {y:V} {u:Value} (c:H b=some (.tup (k.map kV))) (a:RelV y u):
  KT H (putK kvs k y) (storedH xs k b u):=by
 have e:(kvs.any fun d=>decide (d.1=k))=(atKey xs k).isSome:=by
  rw[DB,(r.val k).EH,Option.isSome_map]
 unfold putK storedH
 rw[e]
 by_cases q:(atKey xs k).isSome=true
 ·rw[if_pos q,if_pos q];exact r.bO k a
 ·rw[if_neg q,if_neg q];exact Paired.snoc r ⟨rfl,c,a⟩
theorem KT.keeps {H a:Hp} {kvs:List (List Key×V)} {xs:List (List Key×Addr×Value)} (r:KT H kvs xs) (c:∀b ys,H b=some (.tup ys)->a b=some (.tup ys)):KT a kvs xs:=
 Paired.eU r fun _ _ z=>⟨z.1,c _ _ z.2.1,z.2.2⟩
section
variable{P:Program} {w:World} {H:Hp} {h:Heap} {a:Addr}
theorem Zr {u:HO} (ok:GQ P w H h) (e:Rd H a u):Ay P w H h a u:=e.ok ok
theorem EI {kvs:List (Key×V)} (ok:GQ P w H h) (e:Rd H a (.dK kvs)):kvs.length<=sizeLine/\(a==sysModules)=false/\∃vs,KV kvs vs/\h.DictOf (Am P w) a vs:=
 show Ay P w H h a (.dK kvs)from Zr ok e
theorem VI {kvs:List (Key×V)} (ok:GQ P w H h) (e:H a=some (.dK kvs)):kvs.length<=sizeLine/\(a==sysModules)=false/\∃vs,KV kvs vs/\h.DictOf (Am P w) a vs:=EI ok (.inl e)
theorem Jj {ks:List Key} (ok:GQ P w H h) (e:H a=some (.tup (ks.map kV))):(tupleKind (Am P w)).is h ks a:=by
 obtain⟨_,b,r,o,c,d,n,f⟩:=(show Ay P w H h a (.tup (ks.map kV))from ok a _ e)
 exact⟨o,b.toArray,n,c,d,f,by simpa using Lm r⟩
theorem Ln {kvs:List (List Key×V)} (ok:GQ P w H h) (e:Rd H a (.dT kvs)):kvs.length<=sizeLine/\(a==sysModules)=false/\
  ∃xs,KT H kvs xs/\h.DictOfH (tupleKind (Am P w)) a xs:=by
 obtain⟨z,y,xs,r,o,d,f,g,i,j,k,n⟩:=(show Ay P w H h a (.dT kvs)from Zr ok e)
 refine⟨z,y,xs,r,o,d,f,g,i,j,k,fun x b=>?_,n⟩
 have all:∀{l:List (List Key×V)} {m:List (List Key×Addr×Value)},KT H l m->∀x∈m,(tupleKind (Am P w)).is h x.1 x.2.1:=by
  intro l m q
  induction q with
  |nil=>intro x b;exact nomatch b
  |@cons p q u v c t s=>
   intro x b
   rcases List.mem_cons.mp b with e|b
   ·subst e
    exact Jj ok (by rw[<-c.1];exact c.2.1)
   ·exact s x b
 exact all r x b
theorem ft {kvs:List (List Key×V)} (ok:GQ P w H h) (e:H a=some (.dT kvs)):kvs.length<=sizeLine/\(a==sysModules)=false/\
  ∃xs,KT H kvs xs/\h.DictOfH (tupleKind (Am P w)) a xs:=Ln ok (.inl e)
end
def OK (H:Hp) (a:Addr) (y:V) (r:Option V):Prop:=
 (∃kvs k,Rd H a (.dK kvs)/\y=kV k/\r=CS kvs k)∨∃kvs k b,Rd H a (.dT kvs)/\y=.ref b/\H b=some (.tup (k.map kV))/\r=CS kvs k
def Tc (H:Hp) (a:Addr) (y v:V) (c:Hp):Prop:=
 (∃kvs k,H a=some (.dK kvs)/\y=kV k/\kvs.length<sizeLine/\c=upd H a (.dK (putK kvs k v)))∨
 ∃kvs k b,H a=some (.dT kvs)/\y=.ref b/\H b=some (.tup (k.map kV))/\kvs.length<sizeLine/\c=upd H a (.dT (putK kvs k v))
theorem Tc.k {H:Hp} {a:Addr} {kvs:List (Key×V)} {k:Key} {v:V} (e:H a=some (.dK kvs)) (hl:kvs.length<sizeLine):Tc H a (kV k) v (upd H a (.dK (putK kvs k v))):=.inl ⟨kvs,k,e,rfl,hl,rfl⟩
section
variable{X:Cx} {pins:List (Addr×Obj)} {σ:St} {H:Hp} {s:Shared} {a:Addr} {y v:V} {u r:Value} {o:Option V} {A:Around} {E:Value->Shared->Prop}
theorem Inv.big (I:Inv X pins σ H s):sysModules<s.heap.objs.size:=by
 have h:mainGlobals<s.heap.objs.size:=(I.mod.glob.keeps I.bk).lt
 exact Nat.lt_trans (by decide) h
theorem Td {Q:Value->Shared->Prop} (t:A.units+1<cLine) (I:Inv X pins σ H s) (g:OK H a y (some v)) (n:RelV y u) (h:∀f q,Inv X pins σ H q->RelV v f->Q f q):
  wpAny (model X.prog X.w) A (getItem (.ref a) u) Q E s:=by
 rcases g with⟨kvs,k,e,i,l⟩|⟨kvs,k,b,e,i,x,l⟩
 ·subst i
  obtain⟨z,B,C,c,j⟩:=EI I.BO e
  obtain⟨f,hw,d⟩:=Iv.some_of (v:=v) (o:=valueAt C k) (by rw[l];exact c.val k)
  exact wpAny_getItem_of (Gm n) j.mapOf hw (h f _ (I.tok _) d)
 ·subst i
  cases(show u=Value.ref b from n)
  obtain⟨z,B,D,c,j⟩:=Ln I.BO e
  obtain⟨f,hw,d⟩:=Iv.some_of (v:=v) (o:=(atKey D k).map (·.2)) (by rw[l];exact c.val k)
  obtain⟨p,F,m⟩:=Option.map_eq_some_iff.mp hw
  refine wpAny_getItem_heap (tupleKind_room_in1 t) (Jj I.BO x) j F ?_
  rw[m]
  exact h f _ (I.tok _) d
theorem lB {Q:Value->Shared->Prop} (n:A.units+1<cLine) (I:Inv X pins σ H s) (g:OK H a y o) (j:RelV y u) (h:∀m,Inv X pins σ H m->Q (.bool o.isSome) m):
  wpAny (model X.prog X.w) A (compareOp .In u (.ref a)) Q E s:=by
 rcases g with⟨kvs,k,e,d,l⟩|⟨kvs,k,b,e,d,p,l⟩
 ·subst d
  obtain⟨z,f,t,c,i⟩:=EI I.BO e
  refine wpAny_in_of (Gm j) f i.mapOf ?_
  rw[<-(c.val k).EH,<-l]
  exact h _ (I.tok _)
 ·subst d
  cases(show u=Value.ref b from j)
  obtain⟨z,f,x,c,i⟩:=Ln I.BO e
  refine wpAny_in_heap (tupleKind_room_in1 n) (Jj I.BO p) f i ?_
  have q:=(c.val k).EH
  rw[Option.isSome_map]at q
  rw[<-q,<-l]
  exact h _ (I.tok _)
theorem YE {Q:Value->Shared->Prop} (n:A.units+1<cLine) (I:Inv X pins σ H s) (g:OK H a y o) (j:RelV y u) (h:∀m,Inv X pins σ H m->Q (.bool (!o.isSome)) m):
  wpAny (model X.prog X.w) A (compareOp .NotIn u (.ref a)) Q E s:=by
 rcases g with⟨kvs,k,e,d,l⟩|⟨kvs,k,b,e,d,p,l⟩
 ·subst d
  obtain⟨z,f,t,c,i⟩:=EI I.BO e
  refine wpAny_notIn_of (Gm j) f i.mapOf ?_
  rw[<-(c.val k).EH,<-l]
  exact h _ (I.tok _)
 ·subst d
  cases(show u=Value.ref b from j)
  obtain⟨z,f,x,c,i⟩:=Ln I.BO e
  refine wpAny_notIn_heap (tupleKind_room_in1 n) (Jj I.BO p) f i ?_
  have q:=(c.val k).EH
  rw[Option.isSome_map]at q
  rw[<-q,<-l]
  exact h _ (I.tok _)
theorem JN {h':Heap} {t':Nat} {c:HO} (I:Inv X pins σ H s) (d:eV (H a)) (f:Heap.SameBut a s.heap h') (g:∃q,h'.get? a=some q) (new:Ay X.prog X.w (upd H a c) h' a c):
  Inv X pins σ (upd H a c) {s with heap:=h',toks:=t'}:=
 I.write (x:=a) (e:=a) d (.inl rfl) (fun b q h z=>(f.2 b h).trans z) g new
theorem ID {P:Program} {w:World} {c:Hp} {h':Heap} {kvs:List (Key×V)} {vs:List (Key×Value)} (z:kvs.length<=sizeLine) (d:(a==sysModules)=false) (b:KV kvs vs) (e:h'.DictOf (Am P w) a vs):
  Ay P w c h' a (.dK kvs):=⟨z,d,vs,b,e⟩
theorem Te {C:Hp} {Q:Unit->Shared->Prop} (M:A.units+1<cLine) (I:Inv X pins σ H s) (g:Tc H a y v C) (D:RelV y u) (F:RelV v r) (h:∀G,Inv X pins σ C G->Q () G):
  wpAny (model X.prog X.w) A (setItem (.ref a) u r) Q E s:=by
 rcases g with⟨kvs,k,e,j,l,m⟩|⟨kvs,k,b,e,j,J,l,m⟩
 ·subst j m
  obtain⟨z,n,N,d,p⟩:=VI I.BO e
  have t:N.length<=sizeLine:=by rw[<-d.length];exact z
  have x:(putK kvs k v).length<=sizeLine:=by have:=FN kvs k v;lia
  refine wpAny_setItem_pairs (hsz:=t) (Gm D) p fun K f B=>h _ ?_
  have O:∃q,K.get? a=some q:=let⟨q,_,_,i,_⟩:=f;⟨q,i⟩
  exact JN I (by rw[e];exact True.intro) B O (ID x n (d.put k F) f)
 ·subst j m
  cases(show u=Value.ref b from D)
  obtain⟨z,n,P,d,p⟩:=ft I.BO e
  have t:P.length<=sizeLine:=by rw[<-Paired.length d];exact z
  have x:(putK kvs k v).length<=sizeLine:=by have:=FN kvs k v;lia
  refine wpAny_setItem_heap (hsz:=t) (tupleKind_room_in1 M) (Jj I.BO J) p fun K f B=>h _ ?_
  obtain⟨q,R,S,i,T,U,W,_,Y⟩:=f
  refine JN I (by rw[e];exact True.intro) B ⟨q,i⟩ ⟨x,n,_,(d.put k J F).keeps fun c Z L=>?_,q,R,S,i,T,U,W,Y⟩
  rw[AJ (eT L e (fun z=>nomatch z))]
  exact L
end
section
variable{X:Cx} {pins:List (Addr×Obj)} {σ:St} {H:Hp} {s:Shared} {a:Addr} {kvs:List (Key×V)} {k:Key} {u:Value} {A:Around} {E:Value->Shared->Prop}
theorem fu {v:V} {more:List Value} {Q:Value->Shared->Prop} (I:Inv X pins σ H s) (e:H a=some (.dK kvs)) (f:RelV (kV k) u) (l:CS kvs k=some v) (j:more=[]∨∃x,more=[x])
  (h:∀c m,Inv X pins σ (upd H a (.dK (E' kvs k))) m->RelV v c->Q c m):wpAny (model X.prog X.w) A (call (.builtin "dict.pop") (.ref a::u::more)) Q E s:=by
 obtain⟨z,r,n,b,p⟩:=VI I.BO e
 obtain⟨c,hw,g⟩:=Iv.some_of (v:=v) (o:=valueAt n k) (by rw[<-l];exact b.val k)
 have y:(keyPart u).isSome=true:=by
  cases k with
  |inl i=>obtain⟨t,q⟩:=(show∃t,u=Value.int i t from f);subst q;rfl
  |inr x=>obtain⟨t,q⟩:=(show∃t,u=Value.str x t from f);subst q;rfl
 have B:argsOk "dict.pop" ⟨.ref a::u::more,[]⟩:=by
  rcases j with q|⟨x,q⟩
  ·subst q;exact PySem.F.args_dict_pop_2 _ _
  ·subst q;exact PySem.F.args_dict_pop_3 _ _ _
 refine call_meetsIn PySem.F.slot_dict_pop p.typeIs PySem.F.entry_dict_pop B (meets_dict_pop_there (Am X.prog X.w) a (Gm f) more j y)
  ⟨n,c,p,by rw[<-b.length];exact z,hw,fun C d D=>h c _ ?_ g⟩
 have G:∃q,C.get? a=some q:=let⟨q,_,_,J,_⟩:=d;⟨q,J⟩
 exact JN I (by rw[e];exact True.intro) D G (ID (Nat.le_trans (VH kvs k) z) r (b.drop k) d)
theorem fw {Q:Value->Shared->Prop} (I:Inv X pins σ H s) (e:Rd H a (.dK kvs)) (h:∀t c,Inv X pins σ H c->Q (.int kvs.length t) c):wpAny (model X.prog X.w) A (call (.builtin "len") [.ref a]) Q E s:=by
 obtain⟨z,d,g,b,f⟩:=EI I.BO e
 refine call_len_dict d f (by rw[<-b.length];rw[sizeLine_eq]at z;lia) ?_
 rw[<-b.length]
 exact h _ _ (I.tok _)
end
def fx (i:Expr):Prop:=∀ov a,subscripted i false ov a=operate [ov,a] (getItem ov a)
theorem YF {prog:Program} {w:World} {A:Around} {E:Value->Shared->Prop} {s:Shared} {env:Env} {value slice:Expr} {pos:Pos} {T id:String} {Q:Value->Shared->Prop}
  (hl:typeLookup (.type T) "__getitem__"=pure (some (.builtin id))) (j:fx slice)
  (h:wpAny (model prog w) A (eval value env) (fun o c=>wpAny (model prog w) A (eval slice env) (fun i a=>a.TypeIs o T/\wpAny (model prog w) A (getItem o i) Q E a) E c) E s):
  wpAny (model prog w) A (eval (.Subscript value slice pos) env) Q E s:=by
 refine Subscript_ (wpAny_mono h (fun o c e=>wpAny_mono e (fun i a b=>?_) fun _ _ x=>x) fun _ _ x=>x)
 obtain⟨g,b⟩:=b
 unfold subscriptTail
 refine wpAny_bind ?_
 rw[getitemInPython_of_ne g.not_modules]
 refine wpAny_bind (wpAny_specialOf g hl ?_)
 have fin:wpAny (model prog w) A (subscripted slice false o i) (fun r d=>wpAny (model prog w) A (letTemporaryGo value o r>>=fun _=>pure r) Q E d) E a:=by
  rw[j o i]
  exact wpAny_operating (wpAny_mono b (fun r d f=>wpAny_bind (wpAny_letTemporaryGo (wpAny_pure f))) fun _ _ x=>x)
 first
  |exact wpAny_pure (wpAny_bind fin)
  |exact wpAny_bind (wpAny_pure (wpAny_bind fin))
  |exact wpAny_bind fin
theorem OL {X:Cx} {pins:List (Addr×Obj)} {σ:St} {H:Hp} {s:Shared} {a:Addr} {y:V} {o:Option V} (I:Inv X pins σ H s) (g:OK H a y o):s.TypeIs (.ref a) "dict":=by
 rcases g with⟨kvs,k,e,_,_⟩|⟨kvs,k,b,e,_,_,_⟩
 ·obtain⟨_,_,d,_,c⟩:=EI I.BO e
  exact c.typeIs
 ·obtain⟨_,_,f,_,c⟩:=Ln I.BO e
  exact c.typeIs
inductive tO (x y:V) (H:Hp) (Q:VK):Prop
 |mk (a:Addr) (v:V) (e:x=.ref a) (g:OK H a y (some v)) (q:Q v H):tO x y H Q
inductive tP (x y:V) (H:Hp) (Q:VK):Prop
 |mk (a:Addr) (o:Option V) (e:x=.ref a) (g:OK H a y o) (q:Q (.bl o.isSome) H):tP x y H Q
inductive tQ (x y:V) (H:Hp) (Q:VK):Prop
 |mk (a:Addr) (o:Option V) (e:x=.ref a) (g:OK H a y o) (q:Q (.bl (!o.isSome)) H):tQ x y H Q
def fy (b ty:TE):TE:=fun a H Q=>b a H fun x c=>ty a c fun y d=>tO x y d Q
def lC (ty b:TE):TE:=fun a H Q=>ty a H fun y c=>b a c fun x d=>tP x y d Q
def YG (ty b:TE):TE:=fun a H Q=>ty a H fun y c=>b a c fun x d=>tQ x y d Q
def fz (d ty e:TE):TS:=fun D b H=>e b H fun v f=>d b f fun x g=>ty b g fun y h=>∃a c,x=.ref a/\Tc h a y v c/\D.nx b c
section
variable{X:Cx} {o i e value:Expr} {pos pos' ki:Pos} {td ty tv:TE}
theorem CQ (f:X.A.units+1<cLine) (j:PE X o td) (k:PE X i ty) (l:fx i):PE X (.Subscript o i pos) (fy td ty):=by
 intro pins s c H Q I h
 refine YF PySem.F.slot_dict_getitem.lookup l (Bo (j pins s c H _ I h) fun u m n=>n.elim fun x p q r t=>Bo (k pins m c p _ q t) fun E G ⟨y,w,d,z,a,v,B,g,C⟩=>?_)
 subst B
 obtain rfl:u=Value.ref a:=r
 exact⟨OL d g,Td f d g z fun J K D b=>⟨v,w,D,b,C⟩⟩
theorem bP (c:X.A.units+1<cLine) (d:PE X i ty) (f:PE X o td):PC X .In i o (lC ty td):=by
 intro pins s b H Q I h
 refine Bo (d pins s b H _ I h) fun B j k=>k.elim fun y l m n p=>Bo (f pins j b l _ m p) fun u C ⟨x,q,r,t,a,ov,v,g,w⟩=>?_
 subst v
 obtain rfl:u=Value.ref a:=t
 exact lB c r g n fun D z=>⟨.bl ov.isSome,q,z,rfl,w⟩
theorem Fo (c:X.A.units+1<cLine) (d:PE X i ty) (f:PE X o td):PC X .NotIn i o (YG ty td):=by
 intro pins s b H Q I h
 refine Bo (d pins s b H _ I h) fun B j k=>k.elim fun y l m n p=>Bo (f pins j b l _ m p) fun u C ⟨x,q,r,t,a,ov,v,g,w⟩=>?_
 subst v
 obtain rfl:u=Value.ref a:=t
 exact YE c r g n fun D z=>⟨.bl (!ov.isSome),q,z,rfl,w⟩
theorem Fp (d:X.A.units+1<cLine) (f:PE X o td) (j:PE X i ty) (k:PE X value tv) (l:swapsWith value (some (.Subscript o i pos')) pos.line X.env=pure false):
  PS X (.Assign [.Subscript o i pos'] value pos) (fz td ty tv):=by
 intro pins s b H D I h
 refine wpAny_Assign_Subscript (Bo (k pins s b H _ I h) fun r m c=>c.elim fun v n p q t=>Bo (f pins m b n _ p t) fun u w c=>c.elim fun x z B C E=>Bo (j pins w b z _ B E) fun N O ⟨y,P,F,G,a,J,K,g,L⟩=>?_) l
 subst K
 obtain rfl:u=Value.ref a:=C
 exact Te d F g G q fun Q M=>⟨b,J,M,L⟩
end
theorem OM {P:Program} {w:World} {H:Hp} (h:Heap) (a:sysModules<h.objs.size):Ay P w H (h.push {cls:=.type "dict",data:=.dict #[]}) h.objs.size (.dK []):=
 ⟨Nat.zero_le _,beq_eq_false_iff_ne.mpr (Ne.symm (Nat.ne_of_lt a)),[],.nil,Heap.DictOf.new h⟩
def bQ:TE:=fun _ H Q=>∀p,H p=none->Q (.ref p) (upd H p (.dK []))
section
variable{X:Cx} {pos:Pos}
theorem Jk:PE X (.Dict [] [] pos) bQ:=fun pins s b H Q I h=>
 wpAny_Dict_empty ⟨.ref s.heap.objs.size,_,I.laid (a:=s.heap.objs.size) (o:=.dK []) (t':=s.toks) (fun _ _ q=>Heap.get?_push_of_some _ q) (Nat.le_refl _) (OM s.heap I.big),rfl,h _ (I.BO.fresh (Nat.le_refl _))⟩
end
def Qd:List (TE×TE)->St->Hp->(List (V×V)->Hp->Prop)->Prop
 |[],_,H,Q=>Q [] H
 |(tk,a)::r,σ,H,Q=>tk σ H fun x b=>a σ b fun y H2=>Qd r σ H2 fun ps c=>Q ((x,y)::ps) c
abbrev VV:List (V×V)->List (Value×Value)->Prop:=Paired fun p q=>RelV p.1 q.1/\RelV p.2 q.2
def jV (X:Cx) (pos:Pos) (keys:List (Option Expr)) (values:List Expr) (a:List (TE×TE)):Prop:=
 ∀(pins:List (Addr×Obj)) (s:Shared) (b:St) (H:Hp) (Q:List (V×V)->Hp->Prop),Inv X pins b H s->Qd a b H Q->
  wpAny (model X.prog X.w) X.A (evalPairs (pairTrees keys values X.env pos)) (fun e f=>∃c d,Inv X pins b d f/\VV c e/\Q c d) X.xe s
theorem Mm {X:Cx} {pos:Pos}:jV X pos [] [] []:=fun pins s a H Q I h=>pairTrees_nil_walk ⟨[],H,I,.nil,h⟩
theorem Gn {X:Cx} {pos:Pos} {k v:Expr} {ks:List (Option Expr)} {vs:List Expr} {tk d:TE} {a:List (TE×TE)} (e:PE X k tk) (f:PE X v d) (g:jV X pos ks vs a):
  jV X pos (some k::ks) (v::vs) ((tk,d)::a):=fun pins s b H Q I h=>
 pairTrees_cons_walk (Bo (e pins s b H _ I h) fun u i j=>j.elim fun x l m n o=>Bo (f pins i b l _ m o) fun D p ⟨y,q,r,t,w⟩=>
  Bo (g pins p b q _ r w) fun E F ⟨z,A,B,c,C⟩=>⟨(x,y)::z,A,B,.cons ⟨n,t⟩ c,C⟩)
def CT (kvs more:List (Key×V)):List (Key×V):=more.foldl (fun a b=>putK a b.1 b.2) kvs
theorem KV.merge:∀{more:List (Key×V)} {a:List (Key×Value)} {kvs:List (Key×V)} {vs:List (Key×Value)},KV more a->KV kvs vs->KV (CT kvs more) (merged vs a):=by
 intro more a kvs vs r
 unfold KV at r
 induction r generalizing kvs vs with
 |nil=>intro q;exact q
 |@cons p q d f h t b=>
  intro c
  have e:KV (putK kvs p.1 p.2) (stored vs q.1 q.2):=by
   have:=c.put p.1 h.2
   rw[<-h.1];exact this
  exact b e
theorem C_:∀(more kvs:List (Key×V)),(CT kvs more).length<=kvs.length+more.length
 |[],kvs=>by show kvs.length<=kvs.length+0;lia
 |p::r,kvs=>by
  have a:=C_ r (putK kvs p.1 p.2)
  have b:=FN kvs p.1 p.2
  show(CT (putK kvs p.1 p.2) r).length<=_
  rw[List.length_cons];lia
theorem Jl {P:Program} {w:World}:∀{kvs:List (Key×V)} {ws:List (Value×Value)},VV (kvs.map fun e=>(kV e.1,e.2)) ws->∃d,Carries (Am P w) ws d/\KV kvs d
 |[],_,r=>by rw[List.map_nil]at r;cases r;exact⟨[],True.intro,.nil⟩
 |p::kvs,_,r=>by
  rw[List.map_cons]at r
  cases r with
  |@cons a b as bs h t=>
   obtain⟨d,c,q⟩:=Jl (P:=P) (w:=w) t
   obtain⟨g,f⟩:=b
   exact⟨(p.1,f)::d,⟨Gm h.1,rfl,c⟩,.cons ⟨rfl,h.2⟩ q⟩
def f_ (a:List (TE×TE)):TE:=fun d H Q=>∀p,H p=none->Qd a d (upd H p (.dK [])) fun e b=>b p=some (.dK [])/\∃kvs:List (Key×V),e=kvs.map (fun c=>(kV c.1,c.2))/\kvs.length<=15/\Q (.ref p) (upd b p (.dK (CT [] kvs)))
theorem Mn {X:Cx} {pos:Pos} {keys:List (Option Expr)} {values:List Expr} {b:List (TE×TE)} (h:jV X pos keys values b) (d:keys.all (·.isSome)=true) (hl:keys.length=values.length) (k:keys≠[])
  (g:keys.length<=15):PE X (.Dict keys values pos) (f_ b):=by
 intro pins s l H Q I q
 have m:=I.BO.fresh (Nat.le_refl s.heap.objs.size)
 have n:=I.laid (a:=s.heap.objs.size) (o:=.dK []) (h':=s.heap.push {cls:=.type "dict",data:=.dict #[]}) (t':=s.toks) (fun _ _ q=>Heap.get?_push_of_some _ q) (Nat.le_refl _) (OM s.heap I.big)
 refine wpAny_Dict_walk (knd:=Am X.prog X.w) d hl k g (Bo (h pins _ l _ _ n (q _ m)) fun G J ⟨K,L,j,i,e,kvs,p,lk,r⟩=>?_)
 subst p
 obtain⟨t,c,u⟩:=Jl (P:=X.prog) (w:=X.w) i
 obtain⟨z,v,x,y,A⟩:=VI j.BO e
 cases y
 refine⟨t,c,A,fun h' f B=>⟨.ref s.heap.objs.size,_,?_,rfl,r⟩⟩
 have C:(CT [] kvs).length<=sizeLine:=by
  have D:=C_ kvs []
  rw[List.length_nil]at D
  rw[sizeLine_eq];lia
 have E:∃q,h'.get? s.heap.objs.size=some q:=let⟨q,_,_,F,_⟩:=f;⟨q,F⟩
 exact JN j (by rw[e];exact True.intro) B E (ID C v (u.merge .nil) f)
structure M1 (X:Cx) (o:Expr) (m:Str) (apos:Pos) (e:Expr) (Dk:Pos):Prop where
 base:attributeBase o m X.env (eval o X.env)=eval o X.env
 Rt:((backTo Dk (starEach [e] X.env)).all (fun x=> !x.1)&&(backToKw Dk (keywordEach [] X.env)).all (fun x=>x.1.isSome)
  &&decide (([e]:List Expr).length+([]:List Keyword).length+(if([]:List Keyword).isEmpty then 0 else 1)<30))=true
 line:(apos.endLine==Dk.line)=true
 trees:backTo Dk (starEach [e] X.env)=[(false,eval e X.env)]
structure M2 (X:Cx) (o:Expr) (m:Str) (apos:Pos) (e f:Expr) (Dk:Pos):Prop where
 base:attributeBase o m X.env (eval o X.env)=eval o X.env
 Rt:((backTo Dk (starEach [e,f] X.env)).all (fun x=> !x.1)&&(backToKw Dk (keywordEach [] X.env)).all (fun x=>x.1.isSome)
  &&decide (([e,f]:List Expr).length+([]:List Keyword).length+(if([]:List Keyword).isEmpty then 0 else 1)<30))=true
 line:(apos.endLine==Dk.line)=true
 trees:backTo Dk (starEach [e,f] X.env)=[(false,eval e X.env),(false,eval f X.env)]
def tR (H:Hp) (a:Addr):Prop:=(∃kvs,Rd H a (.dK kvs))∨∃kvs,Rd H a (.dT kvs)
theorem bR {X:Cx} {pins:List (Addr×Obj)} {σ:St} {H:Hp} {s:Shared} {a:Addr} (I:Inv X pins σ H s) (d:tR H a):
  s.TypeIs (.ref a) "dict"/\(∀b,Value.ref a=.ref b->∃c,s.heap.get? b=some c/\c.dict=none)/\(a==sysModules)=false:=by
 rcases d with⟨kvs,e⟩|⟨kvs,e⟩
 ·obtain⟨_,g,j,_,f⟩:=EI I.BO e
  refine⟨f.typeIs,fun b q=>?_,g⟩
  cases q
  obtain⟨c,_,_,h,i,_⟩:=f
  exact⟨c,h,i.2.1⟩
 ·obtain⟨_,g,k,_,f⟩:=Ln I.BO e
  refine⟨f.typeIs,fun b q=>?_,g⟩
  cases q
  obtain⟨c,_,_,h,i,_⟩:=f
  exact⟨c,h,i.2.1⟩
section
variable{X:Cx} {pins:List (Addr×Obj)} {σ:St} {H:Hp} {s:Shared} {a:Addr} {y d:V} {u r:Value} {o:Option V} {A:Around} {E:Value->Shared->Prop}
end
def bS (e ty:TE):TE:=fun b H Q=>e b H fun x c=>∃a,x=.ref a/\tR c a/\ty b c fun y d=>∃kvs k v,d a=some (.dK kvs)/\y=kV k/\CS kvs k=some v/\Q v (upd d a (.dK (E' kvs k)))
section
variable{X:Cx} {o e f:Expr} {apos Dk:Pos} {td ty tx:TE}
theorem Gp (i:PE X o td) (j:PE X e ty) (m:M1 X o "pop" apos e Dk):PE X (.Call (.Attribute o "pop" apos) [e] [] Dk) (bS td ty):=by
 intro pins s c H Q I h
 refine wpAny_Call_method m.base m.Rt m.line PySem.F.plainAttrs_dict PySem.F.slot_dict_pop PySem.F.type_dict_pop (Bo (i pins s c H _ I h) fun u n ⟨x,p,g,q,a,r,d,t⟩=>?_)
 subst r
 obtain rfl:u=Value.ref a:=q
 obtain⟨w,z,_⟩:=bR g d
 refine⟨w,z,?_⟩
 rw[m.trees]
 refine Calls.callWith_builtin rfl (Calls.evalArgs_plain (Calls.spliced_cons (Bo (j pins n c p _ g t) fun J K ⟨y,L,A,B,kvs,k,v,C,D,l,E⟩=>Calls.spliced_nil ?_)))
 subst D
 exact fu A C B l (.inl rfl) fun M N G b=>⟨v,_,G,b,E⟩
end
section
variable{X:Cx} {pins:List (Addr×Obj)} {σ:St} {H:Hp} {s:Shared} {a:Addr} {kvs:List (Key×V)} {A:Around} {E:Value->Shared->Prop}
theorem VJ {Q:Value->Shared->Prop} (I:Inv X pins σ H s) (e:Rd H a (.dK kvs)) (h:∀p f,H p=none->Inv X pins σ (upd H p (.dK kvs)) f->Q (.ref p) f):wpAny (model X.prog X.w) A (call (.type "dict") [.ref a]) Q E s:=by
 obtain⟨z,i,l,c,j⟩:=EI I.BO e
 refine kt_call_dict i j (by rw[<-c.length];exact z) fun m d k=>?_
 refine h _ _ (I.BO.fresh (Nat.le_refl _)) (I.laid (a:=s.heap.objs.size) (o:=.dK kvs) (t':=s.toks) (fun b q g=>?_) (Nat.le_refl _) (ID z (beq_eq_false_iff_ne.mpr (Ne.symm (Nat.ne_of_lt I.big))) c d))
 exact(k.2 b (Nat.ne_of_lt (Heap.lt_size g))).trans (Heap.get?_push_of_some _ g)
end
section
variable{X:Cx} {pins:List (Addr×Obj)} {σ:St} {H:Hp} {s:Shared} {a:Addr} {y:V} {u:Value} {A:Around} {E:Value->Shared->Prop}
end
end L2
namespace tS
open PySem PySem.W PySem.Calls PyProof.Rows
theorem JC {P:Params} {h:Heap}:∀(ns:List Int) (vs:List Value),WellAll P h vs (ns.map WData.int)->IntsAre vs ns:=by
 intro ns
 induction ns with
 |nil=>
  intro vs w
  rw[List.map_nil]at w
  cases w
  exact .nil
 |cons n ns c=>
  intro vs w
  rw[List.map_cons]at w
  cases w with
  |cons a b=>
   cases a
   exact .cons _ _ (c _ b)
theorem Tf {l:OpenLaw} {n:Nat} (k:l.most=some n) {P:Params} {h:Heap} {args:List WData} {vals:List Value}
  (b:l.row.toRowW.claim.pre args=true) (g:WellAll P h vals args):
  ∃a vs ns,vals=[Value.ref a]/\args=[WData.list (ns.map WData.int)]/\h.get? a=some {cls:=.type "list",data:=.seq vs.toArray}/\IntsAre vs ns/\ns.length<=n:=by
 have i:WShape.hasAll [] args [.list .int]=true:=(pre_splitW b).1
 have j:l.pre.holds [] {args:=args}=true:=(pre_splitW b).2
 obtain⟨d,r,rfl,m,o⟩:=hasAllW_cons i
 obtain rfl:=hasAllW_nil o
 obtain⟨w,rfl,p⟩:=hasW_list m
 obtain⟨ns,rfl⟩:=items_int p
 have hlen:ns.length<=n:=by
  unfold OpenLaw.pre at j
  have e:(WTm.not (.lt (.lit (.int (n:Int))) (.len (.arg 0)))).holds [] {args:=[.list (ns.map .int)]}=true:=by
   have e:=(holds_andW j).1
   rw[k]at e
   exact e
  have f:=condW_of e (w_not (w_lt w_lit (w_len_list (w_arg rfl))))
  rw[List.length_map]at f
  refine Nat.le_of_not_lt fun q=>?_
  have s:(n:Int)<((ns.length:Nat):Int):=by lia
  first
   |(rw[decide_eq_true s]at f;exact absurd f (by decide))
   |(simp at f;lia)
 cases g with
 |cons t u=>
  cases u
  cases t with
  |list v c=>exact⟨_,_,ns,rfl,rfl,v,JC ns _ c,hlen⟩
theorem Tg (l:OpenLaw) (args:List WData):l.row.toRowW.claim.post args (.bool true) args=true:=
 postW_of (r:=l.row.toRowW) (X:=(true==true))
  (show WShape.has [] (.bool true) .bool=true by first|rfl|decide|simp[WShape.has,WShape.arms,WShape.armsAll])
  (show(WTm.eq .res (.lit (.bool true))).value [] {args:=args,res:=some (.bool true),after:=args}=some (.bool (true==true))from w_eq_bool (w_res rfl) w_lit) rfl
theorem ON {l:OpenLaw} {n:Nat} {q:Program} {loose:List Str} {u:(Str->Option Value)->Heap->Prop} {YP:World->Heap->Prop} {d:DefRec}
  (y:l.most=some n) (j:d.params.defaults=[])
  (call:∀(w:World) (s₀ b:Shared) (mg k:Str->Option Value) (c:Addr) (o:Obj) (m h doc:Value) (a:Addr) (vs:List Value) (ns:List Int),
   Ground q loose [] u w s₀ mg k b.heap->YP w b.heap->
   b.heap.get? c=some o->o.data=.func (docDef d.name d.params d.body d.scope m h doc)->b.heap.CodeRec h d.name->mg d.name=some (.ref c)->
   b.heap.get? a=some {cls:=.type "list",data:=.seq vs.toArray}->IntsAre vs ns->ns.length<=n->b.gens= #[]->
   codeAny (model l.prog w) callerA (.call (.ref c) ⟨[.ref a],[]⟩) (fun r i=>r=.ok (.ret (.bool true))/\OldK b.heap i.heap/\i.os=b.os/\AllBare i.gens) b):
  WalkO q loose u YP l.row.toRowW d [] (fun f vs=>PySem.call f vs):=by
 intro w s₀ b mg k G Y c o m h doc z kV A B p v s C args vals L e x D t E
 obtain rfl:z=.none:=Dflts.none v j
 obtain rfl:kV=.none:=Dflts.noKw v
 obtain⟨a,vs,ns,rfl,rfl,g,hints,hlen⟩:=Tf y e t
 refine enter_call (codeAny_mono (call w s₀ b mg k c o m h doc a vs ns G Y A (fd_plain B) p s g hints hlen C) fun r i F=>?_)
 obtain⟨rfl,H,I,J⟩:=F
 exact⟨.inl ⟨.bool true,.bool true,[],rfl,fun _=>rfl,.bool true,Tg l _,fun _=>⟨List.Pairwise.nil,fun _ K=>(nomatch K)⟩⟩,H,I,J⟩
section
variable{prog:Program} {w:World} {A:Around} {E:Value->Shared->Prop} {s:Shared} {K:Frag}
end
end tS
namespace L2
open PySem PySem.Spec PyProof.Rows
theorem Th {vs:List Value} {ns:List Int} (h:IntsAre vs ns):Vals (ns.map V.int) vs:=by
 induction h with
 |nil=>exact .nil
 |cons n t _ a=>exact .cons ⟨t,rfl⟩ a
def bT (H:Hp):Prop:=∀b,H b=none∨∃o a,H b=some (.CZ o (.lst a))
theorem VL {P:Program} {w:World} {K:ACh} {mg J:Str->Option Value} {CX:TX} {k:Nat} {L a:Addr} {T:FuncData} {x:Str} {sp:Sp} {c:Shared} {vs:List Value} {ns:List Int}
  (U:K.In c.heap) (p:c.heap.Ns mainGlobals mg) (g:c.heap.Ns builtinsNs J) (M:∀x:Str,x≠"__name__"->J x=bootBuiltins x) (t:c.heap.NoLimit) (hg:c.gens= #[])
  (I:c.heap.get? a=some {cls:=.type "list",data:=.seq vs.toArray}) (X:IntsAre vs ns) (Y:ns.length<=sizeLine) (hr:Aj k callerA)
  (F:∀base:Heap,K.In base->base.Ns mainGlobals mg->BX P w K mg base CX k L T [x] sp) (l:∀(s:Shared) (u:Value),BindsTo s T ⟨[u],[]⟩ [(x,u)])
  (N:∀H:Hp,bT H->Ah K H a (ns.map V.int)->sp [.ref a] H (fun v _=>v=.bl true) fun _ _ _=>False)
  (O:∀H e i,CX [] H c (fun _ _ _=>False) e i->False):
  codeAny (model P w) callerA (.call (.ref L) ⟨[.ref a],[]⟩) (fun r i=>r=.ok (.ret (.bool true))/\OldK c.heap i.heap/\i.os=c.os/\AllBare i.gens) c:=by
 have Z:=Th X
 have y:=X.length
 have core:∀H:Hp,bT H->Ah K H a (ns.map V.int)->GQ P w H c.heap->(∀b,H b≠none->b=a)->(H a≠none->K.lookup a=none)->
   codeAny (model P w) callerA (.call (.ref L) ⟨[.ref a],[]⟩) (fun r i=>r=.ok (.ret (.bool true))/\OldK c.heap i.heap/\i.os=c.os/\AllBare i.gens) c:=by
  intro H hO hS A hA hK
  have f:∀{b:Addr} {o:Obj},c.heap.get? b=some o->H b=none->(MY c.heap H).get? b=some o:=fun e n=>Uo e n
  have Q:∀{b:Addr} {o:Obj} {B:Array DictEntry} {C:Nat},c.heap.get? b=some o->o.data=.dict B C->H b=none:=fun{b o B C} e d=>by
   cases q:H b with
   |none=>rfl
   |some u=>
    have R:b=a:=hA b (by rw[q];simp)
    subst R
    rw[I]at e;cases e
    have d':Data.seq vs.toArray _=Data.dict B C:=d
    cases d'
  have j:∀{b:Addr} {m:Str->Option Value},c.heap.Ns b m->(MY c.heap H).Ns b m:=fun{b m} ⟨o,B,C,e,d,r⟩=>⟨o,B,C,f e (Q e d),d,r⟩
  have D:K.In (MY c.heap H):=fun b o e=>f (U b o e) (by
   cases q:H b with
   |none=>rfl
   |some u=>
    have R:b=a:=hA b (by rw[q];simp)
    subst R
    rw[hK (by rw[q];simp)]at e;cases e)
  have hM:Mod K mg (MY c.heap H):=⟨D,j p,⟨J,j g,M⟩,let⟨mc,h1,h2⟩:=t;⟨mc,j h1,h2⟩⟩
  have e0:Xw P w K mg (MY c.heap H) callerA [] c H:=⟨rfl,hM,fun b o e=>Xr e,Nat.le_of_eq (TH _ _),trivial,fun b g=>absurd (show b∈([]:List Addr)from g) (by simp),A,.of_eq hg⟩
  refine codeAny_mono ((F _ D (j p)).run callerA [] c H ⟨[.ref a],[]⟩ [.ref a] [.ref a] _ _ hr e0 (l c (.ref a)) (.cons rfl .nil) (N H hO hS)) fun r i h=>?_
  cases r with
  |error e=>exact(O H e i h).elim
  |ok fl=>
   cases fl with
   |next=>exact False.elim h
   |brk=>exact False.elim h
   |cont=>exact False.elim h
   |ret u=>
    obtain⟨v,H',os,bare,un,E,r',q⟩:=h
    have q':v=.bl true:=q
    subst q'
    obtain rfl:u=Value.bool true:=r'
    refine⟨rfl,OldK.of_keep fun b o e=>?_,os,bare⟩
    cases q:H b with
    |none=>exact un.keep b o e q (by intro z;exact absurd (show b∈([]:List Addr)from z) (by simp)) (by simp)
    |some u=>
     rcases hO b with z|⟨ob,xs,z⟩
     ·rw[q]at z;cases z
     ·have z2:=un.Hz b ob _ z
      obtain⟨e1,_⟩:=A b _ z
      obtain⟨e2,_⟩:=E b _ z2
      rw[e]at e1;cases e1
      exact e2
 cases S:K.lookup a with
 |some o=>
  have e:=U a o S
  rw[I]at e
  cases e
  refine core (fun _=>none) (fun _=>.inl rfl) (.inr ⟨_,vs.toArray,_,S,rfl,rfl,rfl,by rw[List.size_toArray,y];exact Y,by simpa using Z⟩) (fun b u z=>by have G:(none:Option HO)=some u:=z;cases G) (fun b z=>absurd rfl z) fun z=>absurd rfl z
 |none=>
  refine core (fun b=>if b=a then some (.CZ {cls:=.type "list",data:=.seq vs.toArray} (.lst (ns.map V.int)))else none) (fun b=>?_) (.inl (.inr ⟨{cls:=.type "list",data:=.seq vs.toArray},if_pos rfl⟩)) (fun b u z=>?_) (fun b z=>?_) fun _=>S
  ·by_cases g:b=a
   ·exact .inr ⟨_,_,if_pos g⟩
   ·exact .inl (if_neg g)
  ·by_cases g:b=a
   ·have G:=(if_pos g).symm.trans z
    cases G
    subst g
    exact⟨I,by rw[List.length_map];exact Y,vs,_,Z,I⟩
   ·have G:=(if_neg g).symm.trans z
    cases G
  ·by_cases g:b=a
   ·exact g
   ·exact absurd (if_neg g) z
theorem YH {l:PySem.W.OpenLaw} {n k:Nat} {q:Program} {loose:List Str} {D:(Str->Option Value)->Heap->Prop} {YP:World->Heap->Prop} {d:DefRec} {K:Params->ACh} {CX:World->TX} {sp:World->Sp} {x:Str}
  (E:l.most=some n) (m:n<=sizeLine) (p:d.params.defaults=[]) (I:Aj k callerA)
  (J:∀(w:World) (h:Heap),YP w h->(K w.params).In h)
  (F:∀(w:World) (mg:Str->Option Value) (j:Addr) (h:Heap),(K w.params).In h->h.Ns mainGlobals mg->mg d.name=some (.ref j)->
   ∃r:FuncData,(∀(s:Shared) (u:Value),BindsTo s r ⟨[u],[]⟩ [(x,u)])/\
    ∀base:Heap,(K w.params).In base->base.Ns mainGlobals mg->BX l.prog w (K w.params) mg base (CX w) k j r [x] (sp w))
  (t:∀(w:World) (H:Hp) (a:Addr) (ns:List Int),ns.length<=n->bT H->Ah (K w.params) H a (ns.map V.int)->sp w [.ref a] H (fun v _=>v=.bl true) fun _ _ _=>False)
  (y:∀(w:World) (H:Hp) (s:Shared) (e:Value) (z:Shared),CX w [] H s (fun _ _ _=>False) e z->False):
  PySem.W.WalkO q loose D YP l.row.toRowW d [] (fun f vs=>PySem.call f vs):=by
 refine tS.ON E p fun w B c mg R j o S U doc a vs ns G Y X Z L A i hints hlen M=>?_
 have C:=J w _ Y
 obtain⟨r,N,O⟩:=F w mg j _ C G.T.g A
 exact VL C G.T.g G.T.b G.T.builtins G.T.nolimit M i hints (Nat.le_trans hlen m) I O N (fun H P Q=>t w H a ns hlen P Q) fun H e z=>y w H c e z
def Ar (s:Stmt):Arguments:=match s with
 | .FunctionDef _ a _ _ _ _ _ _ _ _=>a
 |_=>{posonlyargs:=[],args:=[],vararg:=none,kwonlyargs:=[],kw_defaults:=[],kwarg:=none,defaults:=[]}
def An (s:Stmt):List Stmt:=match s with
 | .FunctionDef _ _ b _ _ _ _ _ _ _=>b
 |_=>[]
def AL (s:Stmt):Scope:=match s with
 | .FunctionDef _ _ _ _ _ _ a _ _ _=>a
 |_=>{kind:=.function,names:=[],isGenerator:=false,isCoroutine:=false}
abbrev DH:TX:=fun _ _ _ _ _ _=>False
abbrev E0:XK:=fun _ _ _=>False
theorem AV {X:Cx}:Passes DH X E0:=fun _ _ _ _ _ _ _ h=>h.elim
structure Dp (K:ACh) (x qual:Str) (st:Stmt) (f:Addr) (fd:FuncData):Prop where
 ex:∃(oc:Value) (od:Option Addr) (kV doc pm:Value) (an:Option Addr) (LF ct:Value) (wg:Array (Option Value)),
  fd=PySem.W.fnOf x qual (Ar st) (An st) (AL st) .none kV doc pm an LF ct/\K.lookup f=some ⟨oc,od,.func fd,wg⟩/\PySem.W.codeIn K LF qual=true
 kp:PySem.W.keepIn K (.ref f)=true
section
variable{P:Program} {w:World} {K:ACh} {mg:Str->Option Value} {base:Heap}
theorem Dp.ok {x qual:Str} {st:Stmt} {f:Addr} {e:FuncData} {N ps:List Str} {k:Nat} {sp:Sp} (F:Dp K x qual st f e) (S:Ax N ps (AL st)) (len:∀vs H Q E,sp vs H Q E->vs.length=ps.length)
  (b:∀(a:Value) (A:Around) (outer:List Env) (s:Shared) (H:Hp) (vs:List V) (Q:VK) (E:XK),Aj k (A.deeper (envOfC qual (AL st) s.heap.objs.size f a))->sp vs H Q E->
   ∃t,TK (TY DH P w K mg base N qual (AL st) f a A outer s H E).jP (An st) t/\t {nx:=fun _ g=>Q .BV g,rt:=Q} (start N vs) H):BX P w K mg base DH (k+1) f e ps sp:=by
 obtain⟨l,m,kV,doc,n,o,a,p,i,rfl,lk,c⟩:=F.ex
 refine fZ lk c S len fun A outer s H vs Q E j d=>?_
 obtain⟨t,h,q⟩:=b a A outer s H vs Q E j d
 exact⟨t,h.jP,q⟩
theorem Dp.binds {x qual:Str} {st:Stmt} {f:Addr} {d:FuncData} {ps:List Str} (F:Dp K x qual st f d)
  (h:∀(kV doc b:Value) (c:Option Addr) (a ct:Value) (us:List Value),us.length=ps.length->bindArgs (PySem.W.fnOf x qual (Ar st) (An st) (AL st) .none kV doc b c a ct) ⟨us,[]⟩=pure (ps.zip us)):Binds K d ps []:=by
 obtain⟨i,j,kV,doc,b,c,a,ct,e,rfl,lk,g⟩:=F.ex
 exact .all (h kV doc b c a ct)
theorem BY {x qual:Str} {st:Stmt} {f:Addr} {g:Value} {h d:Option Addr} {b:Array (Option Value)} {kV doc e a ct:Value} (l:K.lookup f=some ⟨g,h,.func (PySem.W.fnOf x qual (Ar st) (An st) (AL st) .none kV doc e d a ct),b⟩)
  (c:PySem.W.codeIn K a qual=true) (k:PySem.W.keepIn K (.ref f)=true):Dp K x qual st f (PySem.W.fnOf x qual (Ar st) (An st) (AL st) .none kV doc e d a ct):=⟨⟨g,h,kV,doc,e,d,a,ct,b,rfl,l,c⟩,k⟩
end
theorem Bw {A:Around} {k:Nat} (a:Aj k A):A.units+1<cLine:=Nat.lt_of_le_of_lt (Nat.add_le_add_left (by decide:1<=64) _) a.units
theorem BN {n:Nat} (h:n<=1000):n<sizeLine:=Nat.lt_of_le_of_lt h (by decide)
section
variable{X:Cx}
theorem pv (i:Nat) {x:Str} {pos:Pos} (b:X.N[i]?=some x:=by rfl) (c:kK X.env.scope x:=by first|exact Or.inl rfl|exact Or.inr (Or.inl rfl)|exact Or.inr (Or.inr rfl)) (d:(x==("__debug__":Str))=false:=by decide)
  (a:(x==("__classdict__":Str))=false:=by decide):PE X (.Name x pos) (Nv i):=au b c d a
inductive Mo (xs:List V) (H:Hp) (Q:VK):Prop
 |mk (a:_) (kvs:_) (b:xs=[V.ref a]) (c:H a=some (.dK kvs)) (d:Q (.int kvs.length) H):Mo xs H Q
end
theorem As {A B:Prop} (h:B):if false=true then A else B:=by
 rw[if_neg Bool.false_ne_true]
 exact h
theorem Bq {A B:Prop} (h:A):if true=true then A else B:=by
 rw[if_pos rfl]
 exact h
theorem VM {c A B:Prop} [Decidable c] (a:c->A) (b:¬c->B):if c then A else B:=by
 by_cases h:c
 ·rw[if_pos h]
  exact a h
 ·rw[if_neg h]
  exact b h
def AG (H a:Hp):Prop:=∀b o,H b=some o->a b=some o
theorem AG.refl (H:Hp):AG H H:=fun _ _ h=>h
theorem AG.trans {H d H2:Hp} (a:AG H d) (b:AG d H2):AG H H2:=fun c o h=>b c o (a c o h)
theorem AG.free {H a:Hp} (e:AG H a) {l:Addr} (h:a l=Option.none):H l=Option.none:=by
 cases q:H l with
 |none=>rfl
 |some o=>
  rw[e l o q]at h
  cases h
theorem AG.seq {K:ACh} {H b:Hp} {a:Addr} {xs:List V} (e:AG H b) (h:Ah K H a xs):Ah K b a xs:=by
 rcases h with(h|⟨o,h⟩)|h
 ·exact .inl (.inl (e _ _ h))
 ·exact .inl (.inr ⟨o,e _ _ h⟩)
 ·exact .inr h
section
variable{κ:Type} [DecidableEq κ]
theorem VN {kvs:List (κ×V)} {k:κ} (h:CS kvs k=none):¬k∈kvs.map (·.1):=by
 intro m
 obtain⟨p,a,e⟩:=List.mem_map.mp m
 have q:(kvs.any fun b=>decide (b.1=k))=true:=List.any_eq_true.mpr ⟨p,a,decide_eq_true e⟩
 rw[DB,h]at q
 exact absurd q (by simp)
theorem Ru {kvs:List (κ×V)} {k:κ} {v:V} (h:CS kvs k=some v):k∈kvs.map (·.1):=by
 have q:(kvs.any fun a=>decide (a.1=k))=true:=by
  rw[DB,h]
  all_goals rfl
 obtain⟨p,b,e⟩:=List.any_eq_true.mp q
 exact List.mem_map.mpr ⟨p,b,of_decide_eq_true e⟩
theorem Ti {p:κ×V} {r:List (κ×V)} {k:κ} (e:p.1=k):E' (p::r) k=E' r k:=by
 unfold E'
 rw[List.filter_cons,if_neg (by simp[e])]
theorem Tj {p:κ×V} {r:List (κ×V)} {k:κ} (e:¬p.1=k):E' (p::r) k=p::E' r k:=by
 unfold E'
 rw[List.filter_cons,if_pos (by simp[e])]
end
theorem Qe {prog:Program} {w:World} {A:Around} {R:Result->Shared->Prop} {a f iter:Expr} {d:List Expr} {scope:Scope} {pos:Pos} {g b:Value} {env:Env} (e:Nat->Shared->Prop)
  (step:∀n s,e n s->wpAny (model prog w) A (pyNext g) (fun r p=>match r with
   |none=>R (.ok .next) p
   |some v=>wpAny (model prog w) A (letOwnedTupleGo f g v) (fun _ u=>wpAny (model prog w) A (assign f env v) (fun _ B=>
     wpAny (model prog w) A (forIn d true fun c r=>if r=true then do let ok<-isTrue c env (eval c env);pure (ForInStep.yield ok)else pure (ForInStep.yield r)) (fun ok i=>
      if ok=true then wpAny (model prog w) A (eval a env) (fun y j=>wpAny (model prog w) A (call (.builtin "list.append") [b,y]) (fun _ l=>∃m,m<n/\e m l) (fun _ _=>False) j) (fun _ _=>False) i
      else∃m,m<n/\e m i) (fun _ _=>False) B) (fun _ _=>False) u) (fun _ _=>False) p) (fun _ _=>False) s)
  (n:Nat) {s:Shared} (h:e n s):codeAny (model prog w) A (.compLoop (.ListComp a [⟨f,iter,d,0⟩] scope pos) 0 g b env) R s:=by
 have up:∀{C:Type} {t:Sem C} {Q:C->Shared->Prop} {E:Value->Shared->Prop} {s:Shared},wpAny (model prog w) A t Q (fun _ _=>False) s->wpAny (model prog w) A t Q E s:=
  fun h=>wpAny_mono h (fun _ _ q=>q) fun _ _ z=>z.elim
 refine codeAny_loop rfl e (fun k s F=>?_) n h
 show wpAny _ A ((compTurn (.ListComp a [⟨f,iter,d,0⟩] scope pos) 0 g b env).onRaise (fun x=>do noteFrame x env;theTreesLotGoes x)) _ _ s
 refine wpAny_noted ?_
 rw[compTurn_list]
 refine wpAny_bind (wpAny_standAt (wpAny_bind (wpAny_mono (up (step k s F)) (fun r p D=>?_) fun _ _ z=>z)))
 cases r with
 |none=>exact wpAny_pure D
 |some v=>
  refine wpAny_bind (wpAny_mono (up D) (fun _ u G=>?_) fun _ _ z=>z)
  refine wpAny_bind (wpAny_mono (up G) (fun _ B H=>?_) fun _ _ z=>z)
  refine wpAny_bind (wpAny_mono (up H) (fun ok i o=>?_) fun _ _ z=>z)
  cases ok with
  |false=>exact wpAny_pure ⟨rfl,o⟩
  |true=>
   have o:wpAny (model prog w) A (eval a env) (fun y j=>wpAny (model prog w) A (call (.builtin "list.append") [b,y]) (fun _ l=>∃m,m<k/\e m l) (fun _ _=>False) j) (fun _ _=>False) i:=o
   exact wpAny_bind (wpAny_bind (wpAny_mono (up o) (fun y j I=>wpAny_bind (wpAny_mono (up I) (fun _ l J=>wpAny_pure (wpAny_pure ⟨rfl,J⟩)) fun _ _ z=>z)) fun _ _ z=>z))
def EJ (cells:List (Str×Addr)):List (Str×NameKind)->List (Str×Addr)->List (Str×Addr)
 |[],a=>a
 |(n,k)::r,a=>if k==.free then EJ cells r ((n,(cells.lookup n).getD 0)::a)else EJ cells r a
theorem Eg {cells:List (Str×Addr)} {x:Str} {c:Addr}:∀(names:List (Str×NameKind)) (a:List (Str×Addr)),(∀p∈names,p.2=.free->∃c,cells.lookup p.1=some c)->
  (∀y d,a.lookup y=some d->cells.lookup y=some d)->(EJ cells names a).lookup x=some c->cells.lookup x=some c
 |[],a,_,g,h=>g x c h
 |(n,k)::r,a,i,g,h=>by
  unfold EJ at h
  by_cases j:(k==NameKind.free)=true
  ·rw[if_pos j]at h
   have o:k=.free:=by simpa using j
   obtain⟨d,q⟩:=i (n,k) List.mem_cons_self o
   refine Eg r _ (fun p l=>i p (List.mem_cons_of_mem _ l)) (fun y e f=>?_) h
   rw[List.lookup_cons]at f
   cases b:y==n with
   |true=>
    rw[b]at f
    have:y=n:=by simpa using b
    subst this
    have m:List.lookup y cells=some d:=q
    rw[m]at f⊢
    exact f
   |false=>
    rw[b]at f
    exact g y e f
  ·rw[if_neg j]at h
   exact Eg r a (fun p l=>i p (List.mem_cons_of_mem _ l)) g h
theorem Fq {cells:List (Str×Addr)} {x:Str}:∀(names:List (Str×NameKind)) (a:List (Str×Addr)),((a.lookup x).isSome=true∨(x,NameKind.free)∈names)->((EJ cells names a).lookup x).isSome=true
 |[],a,h=>h.elim (fun z=>z) fun z=>nomatch z
 |(n,k)::r,a,h=>by
  unfold EJ
  by_cases b:(k==NameKind.free)=true
  ·rw[if_pos b]
   refine Fq r _ ?_
   rcases h with h|h
   ·refine .inl ?_
    rw[List.lookup_cons]
    cases x==n<;>simp[h]
   ·rcases List.mem_cons.mp h with e|e
    ·refine .inl ?_
     have:x=n:=congrArg Prod.fst e
     subst this
     rw[List.lookup_cons]
     simp
    ·exact .inr e
  ·rw[if_neg b]
   refine Fq r _ ?_
   rcases h with h|h
   ·exact .inl h
   ·rcases List.mem_cons.mp h with e|e
    ·have:NameKind.free=k:=congrArg Prod.snd e
     subst this
     exact absurd rfl b
    ·exact .inr e
theorem EK {scope:Scope} {env:Env} (h:∀p∈scope.names,p.2=.free->∃c,env.cells.lookup p.1=some c):closureFor scope env=pure (EJ env.cells scope.names []):=by
 have go:∀(names:List (Str×NameKind)) (b:List (Str×Addr)),(∀p∈names,p.2=.free->∃c,env.cells.lookup p.1=some c)->
   (forIn names b (fun(x:Str×NameKind) r=>if(x.2==NameKind.free)=true then do let a<-cellOf env x.1;pure (ForInStep.yield ((x.1,a)::r))else pure (ForInStep.yield r)):Sem (List (Str×Addr)))=pure (EJ env.cells names b):=by
  intro names
  induction names with
  |nil=>intro b _;rfl
  |cons p r j=>
   intro b f
   obtain⟨n,k⟩:=p
   rw[List.forIn_cons]
   unfold EJ
   by_cases g:(k==NameKind.free)=true
   ·have l:k=.free:=by simpa using g
    obtain⟨c,d⟩:=f (n,k) List.mem_cons_self l
    have d:List.lookup n env.cells=some c:=d
    have e:cellOf env n=pure c:=by unfold cellOf;rw[d]
    simp only[g,if_true,e,d,Option.getD_some]
    exact j _ fun p i=>f p (List.mem_cons_of_mem _ i)
   ·simp only[g,if_false]
    exact j _ fun p i=>f p (List.mem_cons_of_mem _ i)
 unfold closureFor
 exact Eq.trans (congrArg (fun t:Sem (List (Str×Addr))=>t>>=fun m=>pure m) (go scope.names [] h)) rfl
def OO (env:Env) (n:Str) (k:NameKind):NameKind:=if(k==.free&&env.scope.kind==.function&&env.kindOf n==some .cell)=true then .cell else k
theorem Gq {g:Str->NameKind->NameKind} (y:Str):∀names:List (Str×NameKind),(names.map fun p=>(p.1,g p.1 p.2)).lookup y=(names.lookup y).map (g y)
 |[]=>rfl
 |(n,k)::r=>by
  rw[List.map_cons,List.lookup_cons,List.lookup_cons]
  cases e:y==n with
  |true=>
   have:y=n:=by simpa using e
   subst this
   rfl
  |false=>exact Gq y r
theorem FO (scope:Scope) (env:Env) (y:Str):(relabel scope env).names.lookup y=(scope.names.lookup y).map (OO env y):=by
 have e:(relabel scope env).names=scope.names.map fun p=>(p.1,OO env p.1 p.2):=by
  unfold relabel
  refine List.map_congr_left fun p _=>?_
  obtain⟨n,k⟩:=p
  show(if(k==NameKind.free&&env.scope.kind==.function&&env.kindOf n==some .cell)=true then(n,NameKind.cell)else(n,k))=(n,if(k==NameKind.free&&env.scope.kind==.function&&env.kindOf n==some .cell)=true then NameKind.cell else k)
  by_cases h:(k==NameKind.free&&env.scope.kind==.function&&env.kindOf n==some .cell)=true
  ·rw[if_pos h,if_pos h]
  ·rw[if_neg h,if_neg h]
 rw[e]
 exact Gq y _
def DJ (σ:St) (fs:List Nat):St:=fs.map fun i=>(σ[i]?).join
theorem Tn {σ:St} {fs:List Nat} {j:Nat} {v:V} (h:(DJ σ fs)[j]?=some (some v)):∃i,fs[j]?=some i/\σ[i]?=some (some v):=by
 unfold DJ at h
 rw[List.getElem?_map]at h
 cases e:fs[j]? with
 |none=>rw[e]at h;cases h
 |some i=>
  rw[e]at h
  refine⟨i,rfl,?_⟩
  have a:(σ[i]?).join=some v:=ACf h
  cases b:σ[i]? with
  |none=>rw[b]at a;cases a
  |some o=>
   rw[b]at a
   have a:o=some v:=a
   rw[a]
structure Dz (X:Cx) (scope:Scope) (x:Str) (fv:List Str) (fs:List Nat):Prop where
 kind:scope.kind=.function
 VO:∀p∈scope.names,p.2≠.cell
 names:∀p∈scope.names,p.2=.local->scope.names.lookup p.1=some .local
 tg:scope.names.lookup x=some .local
 free:∀p∈scope.names,p.2=.free->X.env.scope.names.lookup p.1=some .cell
 nd:(x::fv).Nodup
 wh:∀(j:Nat) y,fv[j]?=some y->∃i,fs[j]?=some i/\X.N[i]?=some y/\scope.names.lookup y=some .free
 len:fv.length=fs.length
def Rv (a:Scope) (N:List Str) (scope:Scope) (x:Str) (fv:List Str) (fs:List Nat):Bool:=
 scope.kind==.function&&(scope.names.all fun p=>p.2 !=.cell)&&(scope.names.all fun p=>p.2 !=.local||scope.names.lookup p.1==some .local)&&scope.names.lookup x==some .local&&
 (scope.names.all fun p=>p.2 !=.free||a.names.lookup p.1==some .cell)&&decide (x::fv).Nodup&&fs.map (N[·]?)==fv.map some&&(fv.all fun y=>scope.names.lookup y==some .free)
theorem Dz.of {X:Cx} {scope:Scope} {x:Str} {fv:List Str} {fs:List Nat} (h:Rv X.env.scope X.N scope x fv fs=true):Dz X scope x fv fs:=by
 unfold Rv at h
 simp only[Bool.and_eq_true,List.all_eq_true,Bool.or_eq_true,bne_iff_ne,beq_iff_eq,decide_eq_true_eq]at h
 obtain⟨⟨⟨⟨⟨⟨⟨g,i⟩,k⟩,m⟩,n⟩,o⟩,f⟩,q⟩:=h
 have hlen:fs.length=fv.length:=by
  have:=congrArg List.length f
  simpa using this
 refine⟨g,i,fun p b c=>(k p b).resolve_left fun z=>z c,m,fun p b c=>(n p b).resolve_left fun z=>z c,o,fun j y e=>?_,hlen.symm⟩
 have r:j<fv.length:=(ACe e).1
 have d:=congrArg (fun l=>l[j]?) f
 simp only[List.getElem?_map,e]at d
 have a:j<fs.length:=by lia
 rw[ACd a]at d
 refine⟨fs[j],ACd a,?_,q y (ACg e)⟩
 simpa using d
abbrev Dq (X:Cx) (N':List Str) (scope:Scope) (C:Addr) (s0:Shared) (H0:Hp) (fp:List Addr):Cx where
 prog:=X.prog
 w:=X.w
 K:=X.K
 mg:=X.mg
 base:=X.base
 A:=X.A
 N:=N'
 s₀:=s0
 H₀:=H0
 env:=compEnvC scope (EJ X.env.cells scope.names []) C X.env
 outer:=X.stack
 stack:=X.stack
 ex:=fp
 fn:=fun _=>false
 calm:=X.calm
 pn:=[]
 xe:=fun _ _=>False
section
variable{X:Cx} {pins:List (Addr×Obj)} {σ:St} {H H':Hp} {s s':Shared} {scope:Scope} {x:Str} {fv:List Str} {fs:List Nat} {fp:List Addr}
theorem Dz.cells (ok:Dz X scope x fv fs) (I:Inv X pins σ H s):∀p∈scope.names,p.2=.free->∃c,X.env.cells.lookup p.1=some c:=fun p a b=>I.ok.has p.1 (.inl (ok.free p a b))
theorem Dz.look (ok:Dz X scope x fv fs) (I:Inv X pins σ H s) {y:Str} {c:Addr} (h:(EJ X.env.cells scope.names []).lookup y=some c):X.env.cells.lookup y=some c:=
 Eg scope.names [] (ok.cells I) (fun _ _ z=>by cases z) h
theorem Qf (ok:Dz X scope x fv fs) (I:Inv X pins σ H s) (t:∀b∈fp,H_ X pins H b) (w:∀b∈fp,∃o,s.heap.get? b=some o) {h:Heap} {m:Str->Option Value} {tk:Nat} (N:h.Ns s.heap.objs.size m)
  (kept:∀b o,s.heap.get? b=some o->h.get? b=some o):Inv (Dq X (x::fv) scope s.heap.objs.size s H fp) [] (none::DJ σ fs) H {s with heap:=h,toks:=tk}:=by
 have g:=fun{y c}=>ok.look I (y:=y) (c:=c)
 have A:X.env.scope.kind=.function:=I.ok.kind
 refine⟨⟨I.ok.mod,ok.kind,I.ok.glob,I.ok.blt,Nat.le_refl _,fun y z c h O=>I.ok.inj y z c (g h) (g O),fun y a=>?_,fun y c B _=>(by cases B),I.ok.hd,I.ok.frames,.inl rfl,fun b f=>⟨?_,fun y c e z=>(t b f).2.2.2.2.1 y c (g e) z⟩,I.bs,
  Nat.le_trans I.ok.Zf I.sz,fun b o e f=>?_,fun b f C=>?_,I.stack,I.Rg⟩,rfl,I.bare,Un.kept kept,⟨m,N,fun i y v D d T=>?_⟩,fun y c e=>?_,I.fresh,fun y c e=>I.Dl y c (g e),fun p P=>absurd (show p∈([]:List (Addr×Obj))from P) (by simp),I.BO.kept kept,?_⟩
 ·have a:(relabel scope X.env).names.lookup y=some .cell∨(relabel scope X.env).names.lookup y=some .free:=a
  rw[FO]at a
  have E:scope.names.lookup y=some .free:=by
   cases e:scope.names.lookup y with
   |none=>rw[e]at a;rcases a with z|z<;>cases z
   |some k=>
    rw[e]at a
    have a:OO X.env y k=.cell∨OO X.env y k=.free:=a.elim (fun z=>.inl (ACf z)) fun z=>.inr (ACf z)
    by_cases F:k=.free
    ·rw[F]
    ·have d:OO X.env y k=k:=by
      unfold OO
      have:(k==NameKind.free)=false:=by simpa using F
      rw[this]
      rfl
     rw[d]at a
     rcases a with z|z
     ·subst z
      exact absurd rfl (ok.VO _ (PySem.mem_of_lookup e))
     ·exact absurd z F
  exact Option.isSome_iff_exists.mp (Fq scope.names [] (.inr (PySem.mem_of_lookup E)))
 ·obtain⟨o,n⟩:=w b f
  exact Nat.ne_of_lt (Heap.lt_size n)
 ·rcases(t b f).2.2.2.1 with z|z
  ·exact I.ok.Uq b o e z
  ·exact absurd (Nat.lt_of_lt_of_le (Heap.lt_size e) (Nat.le_trans I.ok.Zf z)) (Nat.lt_irrefl _)
 ·rcases List.mem_cons.mp (I.QM b C)with z|z
  ·exact(t b f).2.1 z
  ·exact(t b f).2.2.1 z
 ·cases i with
  |zero=>
   have d:(some none:Option (Option V))=some (some v):=d
   cases d
  |succ j=>
   have D:fv[j]?=some y:=D
   have d:(DJ σ fs)[j]?=some (some v):=d
   obtain⟨i,Q,R⟩:=Tn d
   obtain⟨U,M,S,G⟩:=ok.wh j y D
   rw[Q]at M
   cases M
   have J:X.env.scope.names.lookup y=some .cell:=ok.free (y,.free) (PySem.mem_of_lookup G) rfl
   obtain⟨W,_,K⟩:=I.loc
   obtain⟨u,r,l⟩:=K i y v S R (.inr (.inl J))
   refine⟨u,r,?_⟩
   rcases l with⟨k,_⟩|⟨_,c,e,o,n,hd⟩
   ·have k:X.env.scope.names.lookup y=some .local:=k
    rw[J]at k
    cases k
   ·obtain⟨Y,q⟩:=Option.isSome_iff_exists.mp (Fq (cells:=X.env.cells) scope.names [] (.inr (PySem.mem_of_lookup G)))
    have:=g q
    rw[e]at this
    cases this
    refine .inr ⟨.inl ?_,c,q,o,kept _ _ n,hd⟩
    show(relabel scope X.env).names.lookup y=some .cell
    rw[FO,G]
    show some (OO X.env y .free)=_
    have L:X.env.kindOf y=some .cell:=J
    unfold OO
    rw[A,L]
    rfl
 ·obtain⟨v,o,n,hd⟩:=I.cell y c (g e)
  exact⟨v,o,kept _ _ n,hd⟩
 ·show(none::DJ σ fs).length=(x::fv).length
  simp[DJ,ok.len]
theorem Qg {e:St} {C:Addr} {f:List Str} (I:Inv X pins σ H s) (a:∀b∈fp,H_ X pins H b) (c:Inv (Dq X f scope C s H fp) [] e H' s'):Inv X pins σ H' s':=
 I.eY (ch:=fp) c.os c.base c.BO c.bare fun b d=>⟨(a b d).2.2.2.1,(a b d).2.1,(a b d).2.2.2.2.1,(a b d).2.2.2.2.2⟩
theorem Inv.off {C:Addr} {h':Heap} (I:Inv X pins σ H s) (f:H_ X pins H C) (a:Heap.SameBut C s.heap h'):Inv X pins σ H {s with heap:=h'}:=
 I.turned (t':=s.toks) (fun b o c e=>a.extBut b o c e) f.1 (fun z=>f.2.1 z) f.2.2.2.1 f.2.2.2.2.1 f.2.2.2.2.2
end
def f' (X:Cx) (a:List Expr) (t:TT):Prop:=
 ∀(pins:List (Addr×Obj)) (s:Shared) (b:St) (H:Hp) (Q:Bool->Hp->Prop),Inv X pins b H s->t b H Q->
  wpAny (model X.prog X.w) X.A (forIn a true fun c r=>if r=true then do let ok<-isTrue c X.env (eval c X.env);pure (ForInStep.yield ok)else pure (ForInStep.yield r)) (TP X pins b Q) X.xe s
def Qh:TT:=fun _ H Q=>Q true H
theorem BR {X:Cx}:f' X [] Qh:=fun _ _ _ H _ I h=>wpAny_tests_nil ⟨H,I,h⟩
theorem Fs {X:Cx} {c:Expr} {t:TT} (h:PT X c t):f' X [c] t:=fun pins s a H Q I q=>wpAny_tests_one (h pins s a H Q I q)
def GX (J:It) (g:TT) (h:TE) (fs:List Nat) (σ:St) (H:Hp) (Q:VK):Prop:=∀D,H D=none->∃W:Nat->Nat->Hp->Prop,(∃m,W 0 m (upd H D (.lst [])))/\∀i m a,W i m a->
 (J.stop i a/\Q (.ref D) a)∨(J.go i a/\∀v d,J.TN i a v d->g (some v::DJ σ fs) d fun ok e=>
  if ok=true then h (some v::DJ σ fs) e fun y f=>∃c,f D=some (.lst c)/\c.length<sizeLine/\∃b,b<m/\W (i+1) b (upd f D (.lst (c++[y])))else∃b,b<m/\W (i+1) b e)
def VP (b:TI) (c:TT) (d:TE) (fs:List Nat):TE:=fun a H Q=>b a H fun J e=>GX J c d fs a e Q
section
variable{X:Cx} {elt iter:Expr} {x:Str} {px pos:Pos} {ifs:List Expr} {scope:Scope} {fv:List Str} {fs:List Nat} {wi:TI} {te:TE} {tc:TT}
theorem OP (hc:X.calm=true) (ok:Dz X scope x fv fs) (wk:∀C s0 H0 d,f' (Dq X (x::fv) scope C s0 H0 d) ifs tc) (he:∀C s0 H0 d,PE (Dq X (x::fv) scope C s0 H0 d) elt te)
  {pins:List (Addr×Obj)} {σ:St} {H:Hp} {s:Shared} {E:Value->Shared->Prop} {it:Addr} {d:List Addr} {F:Nat->Heap->Prop} {J:It} {Q:VK} (I:Inv X pins σ H s) (T:Turn X.prog X.w X.K (.Name x px) J d it F) (st:F 0 s.heap)
  (hf:∀b∈d,H_ X pins H b)
  (rd:GX J tc te fs σ H Q)
  {RR:Value->Addr->Result->Shared->Prop}
  (wm:∀D C t f,Inv X pins σ f t->H_ X pins f C->(∃m,t.heap.Ns C m)->Q (.ref D) f->RR (.ref D) C (.ok .next) t):
  wpAny (model X.prog X.w) X.A (newList []) (fun G a=>wpAny (model X.prog X.w) X.A (newFunctionEnv scope X.env.globals (EJ X.env.cells scope.names []) [] X.env.qual none .none (some X.env)) (fun h s4=>
   codeAny (model X.prog X.w) X.A (.compStart (.ListComp elt [⟨.Name x px,iter,ifs,0⟩] scope pos) 0 (.ref it) G {h with scope:=relabel scope X.env}) (RR G h.locals) s4) E a) E s:=by
 obtain⟨W,⟨m0,w0⟩,turn⟩:=rd s.heap.objs.size I.fresh
 have V:Inv X pins σ (upd H s.heap.objs.size (.lst [])) {s with heap:=s.heap.push {cls:=.type "list",dict:=none,data:=.seq ([]:List Value).toArray}}:=I.YA (its:=[]) (ys:=[]) (t':=s.toks) .nil (Nat.zero_le _)
 refine wpAny_newObj_type ?_
 show wpAny _ _ _ _ _ ({s with heap:=s.heap.push {cls:=.type "list",dict:=none,data:=.seq ([]:List Value).toArray}}:Shared)
 generalize wq:({s with heap:=s.heap.push {cls:=.type "list",dict:=none,data:=.seq ([]:List Value).toArray}}:Shared)=a at V⊢
 refine wpAny_newFunctionEnv ok.VO (fun y hy=>absurd hy (by simp)) (fun h1 bU wu=>?_) ok.kind
 have eh:a.heap=s.heap.push {cls:=.type "list",dict:=none,data:=.seq ([]:List Value).toArray}:=by rw[<-wq]
 have L:∀b o,s.heap.get? b=some o->a.heap.get? b=some o:=fun b o e=>by rw[eh];exact Heap.get?_push_of_some _ e
 have w_:∀b∈d,∃o,a.heap.get? b=some o:=fun b c=>let⟨o,ho,_⟩:=T.obj 0 _ st b c;⟨o,L b o ho⟩
 have xA:∀b∈d,b≠s.heap.objs.size:=fun b c=>let⟨o,ho,_⟩:=T.obj 0 _ st b c;Nat.ne_of_lt (Heap.lt_size ho)
 have j:∀b∈d,H_ X pins (upd H s.heap.objs.size (.lst [])) b:=fun b c=>⟨by rw[AJ (xA b c)];exact(hf b c).1,(hf b c).2⟩
 have kept:∀b o,a.heap.get? b=some o->h1.get? b=some o:=fun b o e=>wu.extBut b o (Nat.ne_of_lt (Heap.lt_size e)) (Heap.get?_push_of_some _ e)
 have Y:=Qf (tk:=a.toks+([]:List (Str×Value)).length) ok V j w_ bU kept
 have M:F 0 h1:=T.keep 0 _ _ st fun b c o e=>kept b o (L b o e)
 have g:∀{f:Hp},(∀b∈d,f b=none)->∀b∈d,H_ (Dq X (x::fv) scope a.heap.objs.size a (upd H s.heap.objs.size (.lst [])) d) [] f b:=fun hn b c=>
  ⟨hn b c,(Y.ok.jM b c).1,Y.ok.Ur b c,.inl c,(Y.ok.jM b c).2,fun p hp=>absurd hp (by simp)⟩
 have hg:PG (Dq X (x::fv) scope a.heap.objs.size a (upd H s.heap.objs.size (.lst [])) d) (.Name x px) (Dm 0):=CP ok.nd rfl (.inl (lookup_relabel_local ok.tg)) (.inr (lookup_relabel_local ok.tg))
 have loop:codeAny (model X.prog X.w) X.A (.compLoop (.ListComp elt [⟨.Name x px,iter,ifs,0⟩] scope pos) 0 (.ref it) (.ref s.heap.objs.size) (compEnvC scope (EJ X.env.cells scope.names []) a.heap.objs.size X.env)) (RR (.ref s.heap.objs.size) a.heap.objs.size)
   {a with heap:=h1,toks:=a.toks+([]:List (Str×Value)).length}:=by
  refine Qe (fun n t=>∃i o f,Inv (Dq X (x::fv) scope a.heap.objs.size a (upd H s.heap.objs.size (.lst [])) d) [] (o::DJ σ fs) f t/\F i t.heap/\(∀b∈d,f b=none)/\W i n f) ?_ m0
   ⟨0,none,_,Y,M,fun b c=>(j b c).1,w0⟩
  rintro n s5 ⟨i,o,Z,I5,N,O,w5⟩
  rcases turn i n Z w5 with⟨stop,q⟩|⟨go,step⟩
  ·refine Bo (T.done (Dq X (x::fv) scope a.heap.objs.size a (upd H s.heap.objs.size (.lst [])) d) rfl rfl rfl hc i [] s5 _ Z _ I5 (g O) N stop) fun r s6 ⟨hr,I6⟩=>?_
   subst hr
   obtain⟨m,hm,_⟩:=I6.loc
   exact wm _ _ s6 Z (Qg V j I6) (V.QR (Nat.le_refl _) I6.free) ⟨m,hm⟩ q
  ·refine Bo (T.item (Dq X (x::fv) scope a.heap.objs.size a (upd H s.heap.objs.size (.lst [])) d) rfl rfl rfl hc i [] s5 _ Z _ I5 (g O) N go) fun r s6 ⟨u,hr,h6⟩=>?_
   subst hr
   refine Bo h6 fun _ s7 ⟨v,H7,I7,r7,y7,k,xB⟩=>?_
   have xC:=I7.pinned (g xB) (T.obj _ _ k)
   have back:∀{P:St} {z:Hp} {R:Shared},Inv (Dq X (x::fv) scope a.heap.objs.size a (upd H s.heap.objs.size (.lst [])) d) ([]++Jd d s7.heap) P z R->F (i+1) R.heap/\∀b∈d,z b=none:=fun{P z R} B=>
    ⟨T.keep _ _ _ k fun b c o e=>(B.pin (b,o) (Ee c e)).1,fun b c=>by
     obtain⟨o,e,_⟩:=T.obj _ _ k b c
     exact(B.pin (b,o) (Ee c e)).2.1⟩
   refine Bo (hg _ s7 _ H7 v u (fun σ2 H2=>σ2=some v::DJ σ fs/\H2=H7) xC r7 ⟨rfl,rfl⟩) fun _ s8 ⟨σ8,H8,I8,e8,xD⟩=>?_
   subst e8 xD
   refine Bo (wk _ _ _ _ _ s8 _ H8 _ I8 (step v H8 y7)) fun ok R ⟨z,B,q9⟩=>?_
   cases ok with
   |false=>
    obtain⟨m',l,w9⟩:=q9
    obtain⟨b1,b2⟩:=back B
    exact⟨m',l,i+1,some v,z,B.FG,b1,b2,w9⟩
   |true=>
    refine Bo (he _ _ _ _ _ R _ z _ B q9) fun y s10 ⟨yv,S,xE,r10,ys,hD,hz,m',l,w10⟩=>?_
    refine Bo (EG _ s10 _ S (.ref s.heap.objs.size) [yv] (.ref s.heap.objs.size) [y] (fun _ f=>f=upd S s.heap.objs.size (.lst (ys++[yv]))) xE rfl (.cons r10 .nil) ⟨_,ys,yv,rfl,rfl,hD,hz,rfl⟩) fun _ s11 ⟨_,H11,U,_,e11⟩=>?_
    subst e11
    obtain⟨b1,b2⟩:=back U
    exact⟨m',l,i+1,some v,_,U.FG,b1,b2,w10⟩
 exact codeAny_compStart_list loop (T.self _ 0 _ _ _ M loop)
theorem BI (g:X.calm=true) (ok:Dz X scope x fv fs) (i:PI X (.Name x px) iter wi) (b:∀C c d a,f' (Dq X (x::fv) scope C c d a) ifs tc) (j:∀C c d a,PE (Dq X (x::fv) scope C c d a) elt te)
  (k:∀x,foldedSetIterable iter X.env x=pure x:=by intro _;rfl):PE X (.ListComp elt [⟨.Name x px,iter,ifs,0⟩] scope pos) (VP wi tc te fs):=by
 intro pins s l H Q I h
 rw[eval_ListComp]
 refine wpAny_comprehension_free (use:=none) rfl k (EK (ok.cells I)) ok.kind ok.names (Bo (i pins s l H _ I h) fun A B n=>Bo n fun o E p=>?_)
 obtain⟨F,a,G,J,K,rfl,r,T,e,t,u⟩:=p
 exact OP g ok b j r T e t u fun D C L v w y ⟨m,z⟩ q=>⟨m,z,fun M f=>⟨.ref D,v,w.off y f,rfl,q⟩⟩
theorem Eh {i:Nat} {y:Str} {c b:Pos} (K:X.calm=true) (ok:Dz X scope x fv fs) (L:X.N.Nodup) (k:X.N[i]?=some y) (M:Loc X.env.scope y) (O:PI X (.Name x px) iter wi) (l:∀C n o g,f' (Dq X (x::fv) scope C n o g) ifs tc)
  (P:∀C n o g,PE (Dq X (x::fv) scope C n o g) elt te) (p:swapsWith (.ListComp elt [⟨.Name x px,iter,ifs,0⟩] scope pos) (some (.Name y c)) b.line X.env=pure true:=by rfl)
  (r:X.fn y=true∨X.env.scope.names.lookup y=some .local:=by first|exact .inl rfl|exact .inr rfl|assumption)
  (R:∀x,foldedSetIterable iter X.env x=pure x:=by intro _;rfl):PS X (.Assign [.Name y c] (.ListComp elt [⟨.Name x px,iter,ifs,0⟩] scope pos) b) (fun D d H=>VP wi tc te fs d H fun v f=>D.nx (d.set i (some v)) f):=by
 intro pins s d H D I h
 rw[exec_Assign_Name_used _ _ _ _ p]
 refine wpAny_bind (wpAny_standAt (wpAny_bind ?_))
 show wpAny _ X.A (comprehension (.ListComp elt [⟨.Name x px,iter,ifs,0⟩] scope pos) scope X.env _ (newList []) false (eval iter X.env) (some (assign (.Name y c) X.env))>>=fun _=>pure ()) _ _ s
 refine wpAny_bind (Bo (wpAny_comprehension_free (use:=some (assign (.Name y c) X.env)) (Q:=fun _ j=>SP X pins D .next j) rfl R (EK (ok.cells I)) ok.kind ok.names
  (Bo (O pins s d H _ I h) fun xv s1 S=>Bo S fun U s2 V=>?_)) fun _ j W=>wpAny_pure (wpAny_pure W))
 obtain⟨it,g,tn,J,H2,rfl,Y,T,t,Z,rd⟩:=V
 refine OP (Q:=fun v f=>D.nx (d.set i (some v)) f) K ok l P Y T t Z rd fun G C j f I' u ⟨m,hm⟩ q=>?_
 show wpAny _ X.A (assign (.Name y c) X.env (.ref G)) _ _ j
 refine wpAny_assign_Name (Lb I' L k M (v:=.ref G) rfl (fun jS w ⟨a,B,ha⟩=>?_) r)
 have E:C≠a:=by
  rcases ha with z|z
  ·rw[z];exact u.2.1
  ·exact fun e=>u.2.2.2.2.1 y a z e.symm
 exact⟨m,hm.sameBut B E,fun h' F=>⟨_,f,w.off u F,q⟩⟩
end
theorem Cv {J:It} {k:TT} {f:TE} {fs:List Nat} {σ:St} {H:Hp} {Q:VK} {n:Nat} (item g:Nat->V) (p:Nat->Bool) (z:n<=sizeLine)
  (h:∀i D ys,i<n->H D=none->J.go i (upd H D (.lst ys)))
  (r:∀i D ys v l,i<n->H D=none->J.TN i (upd H D (.lst ys)) v l->v=item i/\l=upd H D (.lst ys))
  (j:∀D ys,H D=none->J.stop n (upd H D (.lst ys)))
  (s:∀i D ys (R:Bool->Hp->Prop),i<n->H D=none->R (p i) (upd H D (.lst ys))->k (some (item i)::DJ σ fs) (upd H D (.lst ys)) R)
  (t:∀i D ys (R:VK),i<n->H D=none->p i=true->R (g i) (upd H D (.lst ys))->f (some (item i)::DJ σ fs) (upd H D (.lst ys)) R)
  (u:∀D,H D=none->Q (.ref D) (upd H D (.lst (((List.range n).filter p).map g)))):
  GX J k f fs σ H Q:=by
 intro D c
 refine⟨fun i m o=>m=n-i/\i<=n/\o=upd H D (.lst (((List.range i).filter p).map g)),⟨n,by simp⟩,?_⟩
 rintro i m o ⟨rfl,A,rfl⟩
 by_cases a:i<n
 ·refine .inr ⟨h i D _ a c,fun v w x=>?_⟩
  obtain⟨rfl,rfl⟩:=r i D _ v w a c x
  refine s i D _ _ a c ?_
  have q:∀b,p i=b->((List.range (i+1)).filter p).map g=((List.range i).filter p).map g++(if b=true then[g i]else[]):=fun b d=>by
   rw[List.range_succ,List.filter_append,List.map_append]
   cases b with
   |true=>simp[d]
   |false=>simp[d]
  cases d:p i with
  |false=>
   show∃y,y<n-i/\_
   refine⟨n-(i+1),by lia,rfl,a,?_⟩
   rw[q false d]
   simp
  |true=>
   show f _ _ _
   refine t i D _ _ a c d ⟨_,AE,?_,n-(i+1),by lia,rfl,a,?_⟩
   ·rw[List.length_map]
    have:=List.length_filter_le p (List.range i)
    rw[List.length_range]at this
    lia
   ·rw[Xq,q true d]
    simp
 ·have e:i=n:=by lia
  subst e
  exact .inl ⟨j D _ c,u D c⟩
theorem AG.put {H a:Hp} {D:Addr} {o:HO} (s:AG H a) (h:H D=none):AG H (upd a D o):=fun b u e=>by
 rw[AJ (Ab e h)]
 exact s b u e
theorem AG.new {H:Hp} {D:Addr} {o:HO} (h:H D=none):AG H (upd H D o):=(AG.refl H).put h
theorem CV {J:It} {f:TE} {fs:List Nat} {σ:St} {H:Hp} {Q:VK} {n:Nat} (item:Nat->V) (Ok:Nat->V->Prop) (C:n<=sizeLine)
  (g:∀i H2,i<n->AG H H2->J.go i H2)
  (u:∀i H2 v o,i<n->AG H H2->J.TN i H2 v o->v=item i/\o=H2)
  (h:∀H2,AG H H2->J.stop n H2)
  (w:∀i H2 (R:VK),i<n->AG H H2->(∀y d,AG H2 d->Ok i y->R y d)->f (some (item i)::DJ σ fs) H2 R)
  (x:∀D H2 ys,H D=none->AG H H2->H2 D=some (.lst ys)->ys.length=n->(∀(i:Nat) y,ys[i]?=some y->Ok i y)->Q (.ref D) H2):
  GX J Qh f fs σ H Q:=by
 intro D k
 refine⟨fun i m H2=>m=n-i/\i<=n/\AG H H2/\∃ys,H2 D=some (.lst ys)/\ys.length=i/\∀(j:Nat) y,ys[j]?=some y->Ok j y,⟨n,by simp,Nat.zero_le _,AG.new k,[],AE,rfl,fun j y z=>by simp at z⟩,?_⟩
 rintro i m H2 ⟨rfl,E,c,ys,p,r,s⟩
 by_cases a:i<n
 ·refine .inr ⟨g i H2 a c,fun v d A=>?_⟩
  obtain⟨rfl,rfl⟩:=u i H2 v d a c A
  show f _ _ _
  refine w i _ _ a c fun y F t l=>⟨ys,t _ _ p,by lia,n-(i+1),by lia,rfl,a,(c.trans t).put k,ys++[y],AE,by simp[r],fun j z b=>?_⟩
  by_cases B:j<ys.length
  ·rw[List.getElem?_append_left B]at b
   exact s j z b
  ·rw[List.getElem?_append_right (by lia)]at b
   have e:j-ys.length=0:=by
    cases q:j-ys.length with
    |zero=>rfl
    |succ G=>rw[q]at b;simp at b
   rw[e]at b
   have:y=z:=by simpa using b
   subst this
   have:j=i:=by lia
   subst this
   exact l
 ·have e:i=n:=by lia
  subst e
  exact .inl ⟨h H2 c,x D H2 ys k c p r s⟩
open Builtin Builtin.Str
theorem YI (n m:Nat):max 0 (min (m:Int) (n:Int))=((min m n:Nat):Int):=by
 rw[Int.max_eq_right (Int.le_min.mpr ⟨Int.natCast_nonneg _,Int.natCast_nonneg _⟩)]
 by_cases h:m<=n
 ·rw[Nat.min_eq_left h,Int.min_eq_left (Int.ofNat_le.mpr h)]
 ·rw[Nat.min_eq_right (Nat.le_of_not_le h),Int.min_eq_right (Int.ofNat_le.mpr (Nat.le_of_not_le h))]
theorem VQ (n:Nat) {i:Int} (h:i<0):max 0 (min (i+(n:Int)) (n:Int))=(((i+(n:Int)).toNat:Nat):Int):=by
 rw[Int.min_eq_left (by lia),Int.toNat_eq_max,Int.max_comm]
theorem VR (l u:Option Int) (n:Nat):strSliceIndices l u 1 n=(List.range (HT.FJ n n u-HT.FJ n 0 l)).map (HT.FJ n 0 l+·):=by
 have clip:∀(v:Option Int) (d:Nat),(match v with|none=>(d:Int)|some i=>max 0 (min (if i<0 then i+(n:Int)else i) (n:Int)))=((HT.FJ n d v:Nat):Int):=by
  intro v d
  cases v with
  |none=>rfl
  |some i=>
   show max 0 (min (if i<0 then i+(n:Int)else i) (n:Int))=(((if i<0 then(i+(n:Int)).toNat else min i.toNat n):Nat):Int)
   by_cases h:i<0
   ·simp only[if_pos h];exact VQ n h
   ·simp only[if_neg h]
    obtain⟨m,rfl⟩:=Int.eq_ofNat_of_zero_le (Int.not_lt.mp h)
    exact YI n m
 have c:=clip l 0
 have e:=clip u n
 unfold strSliceIndices sliceRange
 simp only[show(1:Int)>0 by decide,if_true,Int.one_mul,Int.ediv_one]
 have f:((0:Nat):Int)=0:=rfl
 rw[f]at c
 have gen:∀(A B:Int) (a b:Nat),A=(a:Int)->B=(b:Int)->List.map (fun k:Nat=>(A+(k:Int)).toNat) (List.range (if A<B then B-A+1-1 else 0).toNat)=List.map (fun x=>a+x) (List.range (b-a)):=by
  intro A B a b hA g
  subst hA g
  have j:(if(a:Int)<(b:Int)then(b:Int)-(a:Int)+1-1 else 0).toNat=b-a:=by
   split<;>lia
  rw[j]
  refine List.map_congr_left fun k _=>?_
  lia
 exact gen _ _ _ _ c e
def Qi (xs:List Nat) (l u:Option Int):List Nat:=(xs.drop (HT.FJ xs.length 0 l)).take (HT.FJ xs.length xs.length u-HT.FJ xs.length 0 l)
theorem Qj {c:Type} (xs:List c) (a k:Nat) (h:a+k<=xs.length):((List.range k).map (a+·)).filterMap (xs[·]?)=(xs.drop a).take k:=by
 rw[List.filterMap_map]
 induction k with
 |zero=>simp
 |succ k d=>
  rw[List.range_succ,List.filterMap_append,d (by lia)]
  have b:a+k<xs.length:=by lia
  have e:(xs.drop a)[k]?=some (xs[a+k]):=by
   rw[List.getElem?_drop]
   exact ACd b
  rw[List.take_add_one,e]
  simp[b]
theorem OQ (x:Str) (l u:Option Int):(Txt.slice x l u).cps.toList=Qi x.cps.toList l u:=by
 have hlen:x.cps.toList.length=x.length:=by rw[Array.length_toList];rfl
 have c:HT.FJ x.length x.length u<=x.length:=by
  cases u with
  |none=>exact Nat.le_refl _
  |some v=>
   show(if v<0 then(v+(x.length:Int)).toNat else min v.toNat x.length)<=x.length
   split<;>lia
 unfold Txt.slice Qi
 rw[hlen,VR]
 generalize k:HT.FJ x.length 0 l=a
 generalize d:HT.FJ x.length x.length u=b at c
 by_cases f:a<=b
 ·split
  ·rename_i h
   simp at h
   have:b-a=x.length:=h
   have g:a=0:=by lia
   have j:b=x.length:=by lia
   subst g
   rw[j,<-hlen,List.drop_zero,Nat.sub_zero,List.take_length]
  ·show(List.filterMap (fun i=>x.cps[i]?) _).toArray.toList=_
   rw[List.toList_toArray]
   have e:(fun i:Nat=>x.cps[i]?)=fun i:Nat=>x.cps.toList[i]?:=by
    funext i
    exact(Array.getElem?_toList).symm
   rw[e]
   exact Qj _ a (b-a) (by lia)
 ·have z:b-a=0:=by lia
  rw[z]
  simp only[List.range_zero,List.map_nil,List.take_zero]
  split
  ·rename_i h
   simp at h
   have:x.cps.toList=[]:=List.eq_nil_of_length_eq_zero (by rw[hlen];exact h.symm)
   exact this
  ·rfl
section
variable{X:Cx}
inductive Zs (x:V) (lo:Option Int) (a:Option Int) (H:Hp) (Q:VK):Prop
 |mk (z:_) (b:x=.str z) (c:z.length<=sizeLine) (d:Q (.str (Txt.slice z lo a)) H):Zs x lo a H Q
def lD:V->Option Int->Option Int->Hp->VK->Prop:=fun x lo a H Q=>Zs x lo a H Q
theorem Mp:kv X lD:=by
 intro pins s g H x v p r lo m w Q I n a o e h
 obtain⟨z,rfl,b,q⟩:=h
 obtain⟨t,rfl⟩:=n
 refine⟨"str",_,F.slot_str_getitem.lookup,typeIs_str _ _ _,?_⟩
 have fin:∀c k,EP X pins g Q (.str (Txt.slice z lo m) c) {s with toks:=k}:=fun c k=>⟨.str _,H,I.tok k,⟨c,rfl⟩,q⟩
 cases o with
 |none=>
  cases e with
  |none=>exact wpAny_getItem_str_slice (l:=none) (u:=none) (st:=none) a rfl (post_val_or_str ⟨Nat.le_trans (Txt.slice_le z _ _) b,fin⟩)
  |int j d=>exact wpAny_getItem_str_slice (l:=none) (u:=some (j,d)) (st:=none) a rfl (post_val_or_str ⟨Nat.le_trans (Txt.slice_le z _ _) b,fin⟩)
 |int i f=>
  cases e with
  |none=>exact wpAny_getItem_str_slice (l:=some (i,f)) (u:=none) (st:=none) a rfl (post_val_or_str ⟨Nat.le_trans (Txt.slice_le z _ _) b,fin⟩)
  |int j d=>exact wpAny_getItem_str_slice (l:=some (i,f)) (u:=some (j,d)) (st:=none) a rfl (post_val_or_str ⟨Nat.le_trans (Txt.slice_le z _ _) b,fin⟩)
end
section
variable{X:Cx} {tg:Expr}
inductive Ia (K:ACh) (xs:List V) (H:Hp) (Q:VK):Prop
 |mk (p:Addr) (bs:List Bool) (a:xs=[.ref p]) (b:Ah K H p (bs.map V.bl)) (c:Q (.bl (bs.all id)) H):Ia K xs H Q
def Jm (K:ACh):List V->Hp->VK->Prop:=fun a H Q=>Ia K a H Q
theorem Jn (y:X.calm=true):BJ X (.builtin "all") (Jm X.K):=by
 intro pins s M H N O Q I r h
 obtain⟨p,bs,rfl,B,q⟩:=h
 obtain⟨u,rfl,l⟩:=vals1 r
 cases l
 obtain⟨d,m,w,P⟩:=I.list B
 obtain⟨C,f,g⟩:=id w.isList
 have n:p<s.heap.objs.size:=Heap.lt_size f
 have t:X.A.in1.handled=none:=I.ok.hd y
 have hlen:d.toArray.size=bs.length:=by rw[List.size_toArray,<-m.length,List.length_map]
 refine call_all_walk (wpAny_pyIter_list w.isList ⟨s.heap.objs.size,_,_,_,_,_,fun i=>bs.getD i true,rfl,Walks.list t s.heap.objs.size p (Nat.ne_of_lt n) d.toArray,⟨⟨_,Heap.get?_push_size _ rfl,rfl,rfl⟩,⟨C,Heap.get?_push_of_some _ f,g⟩⟩,?_,fun R D kept=>?_⟩)
 ·intro i v E F S j k
  have j:d[i]?=some v:=by simpa using j
  have c:i<bs.length:=by
   have:=(ACe j).1
   rw[<-m.length,List.length_map]at this
   exact this
  have e:(bs.map V.bl)[i]?=some (V.bl bs[i]):=by rw[List.getElem?_map,ACd c];rfl
  obtain⟨u,x,l⟩:=m.get e
  rw[j]at x
  cases x
  cases l
  have G:bs.getD i true=bs[i]:=by rw[List.getD_eq_getElem?_getD,ACd c];rfl
  have k:F (bs.getD i true) E:=k
  rw[G]at k
  exact wpAny_truthy_bool k
 ·refine⟨.bl (bs.all id),H,I.kept (t':=D) fun b o e=>kept b o (fun z=>?_) (Heap.get?_push_of_some _ e),?_,q⟩
  ·have J:b=s.heap.objs.size:=by simpa using z
   exact Nat.ne_of_lt (Heap.lt_size e) J
  ·show Value.bool _=Value.bool _
   congr 1
   rw[hlen,Bool.eq_iff_iff,List.all_eq_true,List.all_eq_true]
   constructor
   ·intro a b L
    obtain⟨i,c,rfl⟩:=List.mem_iff_getElem.mp L
    have:=a i (List.mem_range.mpr c)
    rw[List.getD_eq_getElem?_getD,ACd c]at this
    exact this
   ·intro a i c
    have c:=List.mem_range.mp c
    rw[List.getD_eq_getElem?_getD,ACd c]
    exact a _ (List.getElem_mem c)
inductive bV (K:ACh) (x:V) (vs:List V) (H:Hp) (Q:VK):Prop
 |mk (z:Str) (p:Addr) (ys:List Str) (a:x=.str z) (b:vs=[.ref p]) (c:Ah K H p (ys.map V.str)) (d:(ys.map (·.length)).sum+ys.length*z.length<=16777216) (e:Q (.str (Txt.join z ys)) H):bV K x vs H Q
inductive LL (x:V) (y:V) (H:Hp) (Q:VK):Prop
 |mk (z:_) (n:_) (a:x=.str z) (b:y=.int n) (c:MulOk z n) (d:Q (.str (Txt.mul z n)) H):LL x y H Q
inductive To (x:V) (y:V) (H:Hp) (Q:VK):Prop
 |mk (a:_) (b:_) (c:x=.bl a) (d:y=.bl b) (e:Q (.bl (a==b)) H):To x y H Q
inductive Mq (x:V) (y:V) (H:Hp) (Q:VK):Prop
 |mk (a:_) (b:_) (c:x=.bl a) (d:y=.bl b) (e:Q (.bl (!(a==b))) H):Mq x y H Q
inductive Mr (K:ACh) (xs:List V) (H:Hp) (Q:VK):Prop
 |mk (x:_) (T:_) (t:_) (b:_) (a:xs=[x,.ty T]) (c:IC K H x t) (d:PySem.W.kitOne K t (.type T)=some b) (e:Q (.bl b) H):Mr K xs H Q
inductive VS (x:V) (vs:List V) (H:Hp) (Q:VK):Prop
 |mk (l:_) (xs:_) (i:_) (y:_) (a:x=.ref l) (b:vs=[.int ((i:Nat):Int),y]) (c:H l=some (.lst xs)) (d:i<=xs.length) (e:xs.length<sizeLine) (f:Q .BV (upd H l (.lst (xs.take i++y::xs.drop i)))):VS x vs H Q
end
section
variable{X:Cx}
inductive bW (x:V) (y:V) (H:Hp) (Q:VK):Prop
 |mk (a:_) (b:_) (xs:_) (ys:_) (d:x=.ref a) (e:y=.ref b) (f:H a=some (.tup xs)) (g:H b=some (.tup ys)) (h:xs.length+ys.length<=sizeLine) (i:∀p c,AG H c->c p=some (.tup (xs++ys))->Q (.ref p) c):bW x y H Q
end
end L2
namespace HT
open PySem PyProof.Rows
section
variable{prog:Program} {w:World} {A:Around} {E:Value->Shared->Prop} {s:Shared}
end
end HT
namespace L2
open PySem PySem.Spec PyProof.Rows
section
variable{X:Cx}
inductive gA (x:V) (lo:Option Int) (c:Option Int) (H:Hp) (Q:VK):Prop
 |mk (a:_) (xs:_) (d:x=.ref a) (e:H a=some (.tup xs)) (f:∀p b,AG H b->b p=some (.tup (GN xs lo c))->Q (.ref p) b):gA x lo c H Q
end
inductive Lo (H:Hp):V->String->Prop where
 |BV:Lo H .BV "NoneType"
 |bl (b:Bool):Lo H (.bl b) "bool"
 |int (i:Int):Lo H (.int i) "int"
 |str (x:Str):Lo H (.str x) "str"
 |lst {a:Addr} {xs:List V} (e:Rd H a (.lst xs)):Lo H (.ref a) "list"
 |tup {a:Addr} {xs:List V} (e:H a=some (.tup xs)):Lo H (.ref a) "tuple"
 |dK {a:Addr} {kvs:List (Key×V)} (e:Rd H a (.dK kvs)):Lo H (.ref a) "dict"
theorem Rd.up {H b:Hp} {a:Addr} {u:HO} (h:Rd H a u) (s:∀o,H a=some o->b a=some o):Rd b a u:=by
 rcases h with h|⟨o,h⟩
 ·exact .inl (s _ h)
 ·exact .inr ⟨o,s _ h⟩
def Qk (T c:String):Bool:=T==c||(T=="bool"&&c=="int")
def YJ (c:String):Bool:=["int","bool","str","list","tuple","dict"].contains c
theorem Rx {K:ACh} {H:Hp} {v:V} {T c:String} (h:Lo H v T) (a:YJ c=true):PySem.W.kitOne K (.type T) (.type c)=some (Qk T c):=by
 have a:c="int"∨c="bool"∨c="str"∨c="list"∨c="tuple"∨c="dict":=by
  unfold YJ at a
  simpa using a
 cases h<;>rcases a with rfl|rfl|rfl|rfl|rfl|rfl<;>kernel_rfl
section
variable{X:Cx}
inductive Zt (xs:List V) (H:Hp) (Q:VK):Prop
 |mk (x:_) (c:_) (T:_) (a:xs=[x,.ty c]) (b:YJ c=true) (d:Lo H x T) (e:Q (.bl (Qk T c)) H):Zt xs H Q
def lE:List V->Hp->VK->Prop:=fun a H Q=>Zt a H Q
theorem OR {pins:List (Addr×Obj)} {σ:St} {H:Hp} {s:Shared} {A:Around} {E:Value->Shared->Prop} {Q:Value->Shared->Prop} {x:V} {u:Value} {T c:String} {b:Bool} (I:Inv X pins σ H s) (d:RelV x u) (ty:Lo H x T) (e:PySem.W.kitOne X.K (.type T) (.type c)=some b) (h:∀tk,Q (.bool b) {s with toks:=tk}):
  wpAny (model X.prog X.w) A (call (.builtin "isinstance") [u,.type c]) Q E s:=by
 cases ty with
 |BV=>exact EE I d .BV e h
 |bl y=>exact EE I d (.bl y) e h
 |int i=>exact EE I d (.int i) e h
 |str y=>exact EE I d (.str y) e h
 |tup f=>exact EE I d (.tup f) e h
 |@lst a j f=>
  cases(show u=Value.ref a from d)
  obtain⟨_,_,n,_,g⟩:=(show Ay X.prog X.w H s.heap a (.lst j)from f.ok I.BO)
  exact PySem.W.kia_one PySem.W.kitx_list I.Gf ⟨_,g,rfl⟩ e (fun z=>nomatch z) h
 |@dK a kvs f=>
  cases(show u=Value.ref a from d)
  obtain⟨_,_,l,_,p⟩:=(show Ay X.prog X.w H s.heap a (.dK kvs)from f.ok I.BO)
  obtain⟨o,m,q,g,k,_⟩:=p
  exact PySem.W.kia_one PySem.W.kitx_dict I.Gf ⟨o,g,k.1⟩ e (fun z=>nomatch z) h
theorem CB:BJ X (.builtin "isinstance") lE:=by
 intro pins s f H g i Q I r h
 obtain⟨x,c,T,rfl,b,ty,q⟩:=h
 obtain⟨u,j,rfl,d,a⟩:=vals2 r
 cases a
 exact OR I d ty (Rx ty b) fun e=>⟨.bl _,H,I.tok e,rfl,q⟩
end
open Builtin Builtin.Str
abbrev sgn (x:Str):List Nat:=x.cps.toList
def VT:List Nat:=sgn "abcdefghijklmnopqrstuvwxyz"
def Zu (c:Nat):Bool:=decide (c∈VT)
theorem Jo (x:Str):(sgn x).length=x.length:=by
 show x.cps.toList.length=x.cps.size
 exact Array.length_toList
theorem CK (x y:Str):sgn (x++y)=sgn x++sgn y:=by
 show(x.cps++y.cps).toList=_
 exact Array.toList_append
theorem EL (x:Str) (l u:Option Int):sgn (Txt.slice x l u)=Qi (sgn x) l u:=OQ x l u
def OS (l:List Nat):Bool:=decide (1<=l.length)&&decide (l.length<=8)&&l.all Zu
def CL (x:Str):Bool:=OS (sgn x)
theorem Zv (n d k:Nat):HT.FJ n d (some (k:Int))=min k n:=by
 show(if(k:Int)<0 then((k:Int)+(n:Int)).toNat else min (k:Int).toNat n)=min k n
 rw[if_neg (by lia),Int.toNat_natCast]
theorem Ms (l:List Nat) (k:Nat):Qi l none (some (k:Int))=l.take k:=by
 unfold Qi
 have e:=Zv l.length l.length k
 rw[e]
 show(l.drop 0).take (min k l.length-0)=_
 rw[List.drop_zero,Nat.sub_zero,List.take_eq_take_min]
 simp
theorem VU (l:List Nat) (k:Nat):Qi l (some (k:Int)) none=l.drop k:=by
 unfold Qi
 have e:=Zv l.length 0 k
 rw[e]
 show(l.drop (min k l.length)).take (l.length-min k l.length)=_
 have:(l.drop (min k l.length)).length=l.length-min k l.length:=List.length_drop
 rw[<-this,List.take_length]
 by_cases h:k<=l.length
 ·rw[Nat.min_eq_left h]
 ·rw[Nat.min_eq_right (by lia),List.drop_eq_nil_of_le (by lia),List.drop_eq_nil_of_le (by lia)]
theorem OT {l:List Nat} {p:Nat->Bool} (h:l.all p=true) (k:Nat):(l.take k).all p=true:=by
 rw[List.all_eq_true]at h⊢
 exact fun x a=>h x (List.mem_of_mem_take a)
theorem VW {l:List Nat} {p:Nat->Bool} (h:l.all p=true) (k:Nat):(l.drop k).all p=true:=by
 rw[List.all_eq_true]at h⊢
 exact fun x a=>h x (List.mem_of_mem_drop a)
theorem Ql {c:Nat} (h:c∈VT):Zu c=true:=decide_eq_true h
theorem OU {l:List Nat} (a:1<=l.length) (b:l.length<=8) (c:l.all Zu=true):OS l=true:=by
 unfold OS
 simp only[Bool.and_eq_true,decide_eq_true_eq]
 exact⟨⟨a,b⟩,c⟩
inductive Dc where
 |leaf (v:V)
 |row (a:Addr) (xs:List Dc)
 |tab (a:Addr) (ks:List Str) (xs:List Dc)
namespace Dc
def val:Dc->V
 |leaf v=>v
 |row a _=>.ref a
 |tab a _ _=>.ref a
mutual
def addrs:Dc->List Addr
 |leaf _=>[]
 |row a xs=>a::BC xs
 |tab a _ xs=>a::BC xs
def BC:List Dc->List Addr
 |[]=>[]
 |x::r=>addrs x++BC r
end
mutual
def size:Dc->Nat
 |leaf _=>1
 |row _ xs=>1+AI xs
 |tab _ _ xs=>1+AI xs
def AI:List Dc->Nat
 |[]=>0
 |x::r=>size x+AI r
end
def Lf (v:V):Prop:=(∃i,v=.int i)∨∃x:Str,v=.str x/\x.length<=100
def kvs (ks:List Str) (xs:List Dc):List (Key×V):=(ks.zip (xs.map val)).map fun p=>(Sum.inr p.1,p.2)
mutual
def At (H:Hp):Dc->Prop
 |leaf v=>Lf v
 |row a xs=>Rd H a (.lst (xs.map val))/\Hu H xs
 |tab a ks xs=>Rd H a (.dK (kvs ks xs))/\ks.length=xs.length/\ks.Nodup/\Hu H xs
def Hu (H:Hp):List Dc->Prop
 |[]=>True
 |x::r=>At H x/\Hu H r
end
mutual
def put (b:Addr) (i:Nat) (k:Str) (p:Dc):Dc->Dc
 |leaf v=>leaf v
 |row a xs=>if a=b then row a (xs.take i++p::xs.drop i)else row a (putL b i k p xs)
 |tab a ks xs=>if a=b then tab a (ks++[k]) (xs++[p])else tab a ks (putL b i k p xs)
def putL (b:Addr) (i:Nat) (k:Str) (p:Dc):List Dc->List Dc
 |[]=>[]
 |x::r=>put b i k p x::putL b i k p r
end
theorem size_pos (d:Dc):1<=d.size:=by
 cases d<;>simp only[size]<;>lia
theorem CW:∀xs ys:List Dc,BC (xs++ys)=BC xs++BC ys
 |[],_=>rfl
 |x::r,ys=>by simp only[List.cons_append,BC,CW r ys,List.append_assoc]
theorem Ai:∀xs ys:List Dc,AI (xs++ys)=AI xs+AI ys
 |[],ys=>by simp[AI]
 |x::r,ys=>by simp only[List.cons_append,AI,Ai r ys];lia
theorem Ei {H:Hp}:∀xs ys:List Dc,Hu H (xs++ys)↔Hu H xs/\Hu H ys
 |[],ys=>by simp[Hu]
 |x::r,ys=>by simp only[List.cons_append,Hu,Ei r ys,and_assoc]
theorem Ft {H:Hp}:∀{xs:List Dc},Hu H xs->∀x∈xs,At H x
 |[],_,x,a=>nomatch a
 |y::r,h,x,a=>by
  simp only[Hu]at h
  rcases List.mem_cons.mp a with rfl|a
  ·exact h.1
  ·exact Ft h.2 x a
mutual
theorem Jp {H e:Hp}:∀d:Dc,(∀a∈d.addrs,∀o,H a=some o->e a=some o)->d.At H->d.At e
 |leaf v,_,h=>h
 |row a xs,f,h=>by
  simp only[At]at h⊢
  exact⟨h.1.up (f a (by simp[addrs])),EM xs (fun c b=>f c (by simp only[addrs];exact List.mem_cons_of_mem _ b)) h.2⟩
 |tab a ks xs,f,h=>by
  simp only[At]at h⊢
  exact⟨h.1.up (f a (by simp[addrs])),h.2.1,h.2.2.1,EM xs (fun c b=>f c (by simp only[addrs];exact List.mem_cons_of_mem _ b)) h.2.2.2⟩
theorem EM {H d:Hp}:∀xs:List Dc,(∀a∈BC xs,∀o,H a=some o->d a=some o)->Hu H xs->Hu d xs
 |[],_,h=>h
 |x::r,f,h=>by
  simp only[Hu]at h⊢
  exact⟨Jp x (fun c b=>f c (by simp only[BC];exact List.mem_append_left _ b)) h.1,EM r (fun c b=>f c (by simp only[BC];exact List.mem_append_right _ b)) h.2⟩
end
theorem Ry {H b:Hp} {d:Dc} (s:AG H b) (h:d.At H):d.At b:=Jp d (fun a _ o e=>s a o e) h
theorem Jq {ks:List Str} {xs:List Dc} (h:ks.length=xs.length):(kvs ks xs).map (·.1)=ks.map Sum.inr:=by
 unfold kvs
 rw[List.map_map]
 have:(fun p:Str×V=>(Sum.inr p.1:Key))=(Sum.inr:Str->Key)∘Prod.fst:=rfl
 show List.map ((fun p:Key×V=>p.1)∘fun p:Str×V=>(Sum.inr p.1,p.2)) (ks.zip (xs.map val))=_
 have e:((fun p:Key×V=>p.1)∘fun p:Str×V=>((Sum.inr p.1:Key),p.2))=(Sum.inr:Str->Key)∘Prod.fst:=rfl
 rw[e,<-List.map_map,List.map_fst_zip (by rw[List.length_map];lia)]
mutual
theorem Tp {H:Hp} {b:Addr}:∀d:Dc,d.At H->b∈d.addrs->(∃vs,Rd H b (.lst vs)/\vs.length<d.size)∨∃ks:List Str,∃f,Rd H b (.dK f)/\f.map (·.1)=ks.map Sum.inr/\f.length<d.size
 |leaf v,_,h=>by simp[addrs]at h
 |row a xs,h,c=>by
  simp only[At]at h
  simp only[addrs,List.mem_cons]at c
  simp only[size]
  rcases c with rfl|c
  ·refine .inl ⟨_,h.1,?_⟩
   rw[List.length_map]
   have:=Cm xs
   lia
  ·rcases GY xs h.2 c with⟨vs,e,l⟩|⟨ks,f,e,z,l⟩
   ·exact .inl ⟨vs,e,by lia⟩
   ·exact .inr ⟨ks,f,e,z,by lia⟩
 |tab a ks xs,h,c=>by
  simp only[At]at h
  simp only[addrs,List.mem_cons]at c
  simp only[size]
  rcases c with rfl|c
  ·refine .inr ⟨ks,_,h.1,Jq h.2.1,?_⟩
   have e:(kvs ks xs).length=ks.length:=by
    have:=congrArg List.length (Jq (ks:=ks) (xs:=xs) h.2.1)
    simpa using this
   rw[e,h.2.1]
   have:=Cm xs
   lia
  ·rcases GY xs h.2.2.2 c with⟨vs,e,l⟩|⟨ks,f,e,z,l⟩
   ·exact .inl ⟨vs,e,by lia⟩
   ·exact .inr ⟨ks,f,e,z,by lia⟩
theorem GY {H:Hp} {b:Addr}:∀xs:List Dc,Hu H xs->b∈BC xs->(∃vs,Rd H b (.lst vs)/\vs.length<AI xs)∨∃ks:List Str,∃a,Rd H b (.dK a)/\a.map (·.1)=ks.map Sum.inr/\a.length<AI xs
 |[],_,h=>by simp[BC]at h
 |x::r,h,c=>by
  simp only[Hu]at h
  simp only[BC,List.mem_append]at c
  simp only[AI]
  rcases c with c|c
  ·rcases Tp x h.1 c with⟨vs,e,l⟩|⟨ks,a,e,z,l⟩
   ·exact .inl ⟨vs,e,by lia⟩
   ·exact .inr ⟨ks,a,e,z,by lia⟩
  ·rcases GY r h.2 c with⟨vs,e,l⟩|⟨ks,a,e,z,l⟩
   ·exact .inl ⟨vs,e,by lia⟩
   ·exact .inr ⟨ks,a,e,z,by lia⟩
theorem Cm:∀xs:List Dc,xs.length<=AI xs
 |[]=>Nat.le_refl _
 |x::r=>by
  have:=Cm r
  have:=size_pos x
  simp only[AI,List.length_cons]
  lia
end
end Dc
section
variable{X:Cx}
inductive Lp (K:ACh) (x:V) (y:V) (H:Hp) (Q:VK):Prop
 |mk (a:Addr) (b:Addr) (xs:List V) (c:x=.ref a) (d:y=.ref b) (e:Ah K H a xs) (f:Ah K H b []) (g:Q (.bl xs.isEmpty) H):Lp K x y H Q
def VX (K:ACh):V->V->Hp->VK->Prop:=fun x y H Q=>Lp K x y H Q
theorem VY (c:X.A.units<cLine):Dy X (compareOp .Eq) (VX X.K):=by
 intro pins s w H x y v u Q I k l h
 obtain⟨a,b,m,rfl,rfl,n,o,q⟩:=h
 cases k
 cases l
 obtain⟨p,d,f,_⟩:=I.list n
 obtain⟨g,r,i,_⟩:=I.list o
 cases r
 have l1:=d.length
 cases m with
 |nil=>
  cases d
  exact SeqAt.eq_listAt (e:=fun _=>true) f.isList i.isList rfl c (fun j t _=>absurd t (by simp)) ⟨.bl true,H,I,rfl,q⟩
 |cons z B=>
  refine SeqAt.eq_list_lengthsAt f.isList i.isList ?_ c ⟨.bl false,H,I,rfl,q⟩
  rw[List.size_toArray,<-l1]
  simp
inductive Lq (K:ACh) (x:V) (y:V) (H:Hp) (Q:VK):Prop
 |mk (a:Addr) (b:Addr) (xs:List V) (c:x=.ref a) (d:y=.ref b) (e:Ah K H a xs) (f:Ah K H b []) (g:Q (.bl (!xs.isEmpty)) H):Lq K x y H Q
def VZ (K:ACh):V->V->Hp->VK->Prop:=fun x y H Q=>Lq K x y H Q
theorem FP (c:X.A.units<cLine):Dy X (compareOp .NotEq) (VZ X.K):=by
 intro pins s w H x y v u Q I k l h
 obtain⟨a,b,m,rfl,rfl,n,o,q⟩:=h
 cases k
 cases l
 obtain⟨p,d,f,_⟩:=I.list n
 obtain⟨g,r,i,_⟩:=I.list o
 cases r
 have l1:=d.length
 cases m with
 |nil=>
  cases d
  exact SeqAt.RcNeAt.lists (e:=fun _=>true) f.isList i.isList rfl c (fun j t _=>absurd t (by simp)) _ _ _ _ ⟨.bl false,H,I,rfl,q⟩
 |cons z B=>
  refine SeqAt.RcNeAt.lists_lengths f.isList i.isList ?_ c _ _ _ _ ⟨.bl true,H,I,rfl,q⟩
  rw[List.size_toArray,<-l1]
  simp
def LM (xs ys:List V):Bool:=((List.range (min xs.length ys.length)).all fun j=>OE (xs.getD j .BV) (ys.getD j .BV))&&xs.length==ys.length
inductive Tq (K:ACh) (x:V) (y:V) (H:Hp) (Q:VK):Prop
 |mk (a:Addr) (b:Addr) (xs:List V) (ys:List V) (c:x=.ref a) (d:y=.ref b) (e:Bj K H a xs) (f:Bj K H b ys) (g:(∀z∈xs,Cd z=true)) (h:(∀z∈ys,Cd z=true)) (i:Q (.bl (LM xs ys)) H):Tq K x y H Q
theorem Qm {pins:List (Addr×Obj)} {σ:St} {H:Hp} {s:Shared} {A:Around} {E:Value->Shared->Prop} {Q:Value->Shared->Prop} {x:V} {u:Value} {T:String} {l:Addr} {m:Option Addr} {its:List Value} {n:Nat} {sl:Array (Option Value)} {b:Bool}
  (I:Inv X pins σ H s) (d:RelV x u) (ty:Lo H x T) (c:s.heap.get? l=some ⟨.type "tuple",m,.seq its.toArray n,sl⟩) (e:PySem.W.kitAny X.K (.type T) its=some b) (h:∀tk,Q (.bool b) {s with toks:=tk}):
  wpAny (model X.prog X.w) A (call (.builtin "isinstance") [u,.ref l]) Q E s:=by
 cases ty with
 |BV=>cases(show u=Value.none from d);exact PySem.W.kia_tup PySem.W.kitx_none I.Gf True.intro c e (fun z=>nomatch z) h
 |bl y=>cases(show u=Value.bool y from d);exact PySem.W.kia_tup PySem.W.kitx_bool I.Gf True.intro c e (fun z=>nomatch z) h
 |int i=>obtain⟨t,q⟩:=(show∃t,u=Value.int i t from d);cases q;exact PySem.W.kia_tup PySem.W.kitx_int I.Gf True.intro c e (fun z=>nomatch z) h
 |str y=>obtain⟨t,q⟩:=(show∃t,u=Value.str y t from d);cases q;exact PySem.W.kia_tup PySem.W.kitx_str I.Gf True.intro c e (fun z=>nomatch z) h
 |@lst a j f=>
  cases(show u=Value.ref a from d)
  obtain⟨_,_,n,_,g⟩:=(show Ay X.prog X.w H s.heap a (.lst j)from f.ok I.BO)
  exact PySem.W.kia_tup PySem.W.kitx_list I.Gf ⟨_,g,rfl⟩ c e (fun z=>nomatch z) h
 |@tup a j f=>
  cases(show u=Value.ref a from d)
  obtain⟨_,_,_,p⟩:=(show Ay X.prog X.w H s.heap a (.tup j)from I.BO a _ f)
  obtain⟨o,g,k,_⟩:=p
  exact PySem.W.kia_tup PySem.W.kitx_tuple I.Gf ⟨o,g,k⟩ c e (fun z=>nomatch z) h
 |@dK a kvs f=>
  cases(show u=Value.ref a from d)
  obtain⟨_,_,r,_,p⟩:=(show Ay X.prog X.w H s.heap a (.dK kvs)from f.ok I.BO)
  obtain⟨o,v,B,g,k,_⟩:=p
  exact PySem.W.kia_tup PySem.W.kitx_dict I.Gf ⟨o,g,k.1⟩ c e (fun z=>nomatch z) h
def gB (T:String):Bool:=T=="list"||T=="dict"
inductive LN (xs:List V) (H:Hp) (Q:VK):Prop
 |mk (x:V) (p:Addr) (T:String) (a:xs=[x,.ref p]) (b:H p=some (.tup [.ty "list",.ty "dict"])) (c:Lo H x T) (d:Q (.bl (gB T)) H):LN xs H Q
theorem Lr {w:World} {P:Program} {vs:List (Key×Value)} {ss:List Str} (b:vs.map (·.1)=ss.map Sum.inr) {ws:List Value} (hl:ws.length=vs.length)
  (g:∀(j:Nat) (v:Value),ws[j]?=some v->∃k x,vs[j]?=some (k,x)/\(Am P w).is k v=true):StrsAre ws ss:=by
 induction ss generalizing vs ws with
 |nil=>
  have:vs=[]:=by cases vs with|nil=>rfl|cons a r=>simp at b
  subst this
  have:ws=[]:=List.eq_nil_of_length_eq_zero hl
  subst this
  exact .nil
 |cons x r h=>
  cases vs with
  |nil=>simp at b
  |cons a vs=>
   simp only[List.map_cons,List.cons.injEq]at b
   cases ws with
   |nil=>simp at hl
   |cons u ws=>
    obtain⟨k,y,e,c⟩:=g 0 u rfl
    have e:a=(k,y):=by simpa using e
    subst e
    have d:k=Sum.inr x:=b.1
    subst d
    have c:JZ (Sum.inr x) u=true:=c
    rcases Bd c with⟨i,t,f,_⟩|⟨z,t,f,l⟩
    ·cases f
    ·cases f
     subst l
     exact .cons _ t (h b.2 (by simpa using hl) fun j v m=>g (j+1) v (by simpa using m))
theorem Fu {us:List Value} {ys:List Str} (h:StrsAre us ys):Vals (ys.map V.str) us:=by
 induction h with
 |nil=>exact .nil
 |cons n t _ a=>exact .cons ⟨t,rfl⟩ a
inductive FA (xs:List V) (H:Hp) (Q:VK):Prop
 |mk (d:Addr) (b:List (Key×V)) (ss:List Str) (e:xs=[.ref d]) (f:Rd H d (.dK b)) (g:b.map (·.1)=ss.map Sum.inr) (h:b.length<64) (i:∀(p:Addr) (a:List Str) (c:Hp),H p=none->AG H c->c p=some (.lst (a.map V.str))->a.Perm ss->sortedS a=true->Q (.ref p) c):FA xs H Q
def Jr:List V->Hp->VK->Prop:=fun a H Q=>FA a H Q
theorem Cn (T:X.calm=true):BJ X (.builtin "sorted") Jr:=by
 intro pins s σ H xs us Q I r h
 obtain⟨d,U,F,rfl,hd,G,p,q⟩:=h
 obtain⟨u,rfl,Y⟩:=vals1 r
 cases Y
 obtain⟨z,Z,k,l,dd⟩:=EI I.BO hd
 have t:X.A.in1.handled=none:=I.ok.hd T
 have n:k.length=U.length:=l.length.symm
 have x:k.map (·.1)=F.map Sum.inr:=by rw[<-G];exact(KV.keys l).symm
 obtain⟨ep,y⟩:=dd.dictAt
 have J:k.length<=sizeLine:=by rw[n];exact z
 refine Calls.call_function_entry kind_sorted plain_sorted entry_sorted (args_sorted1 _) ?_
 unfold Builtin.«sorted»
 refine wpAny_bind (m:=checkCount "sorted" 1 1 _) (wpAny_pure (wpAny_bind (PySem.W.kdu_collect (PySem.W.kdl_dict (knd:=Am X.prog X.w) (kvs:=k) (ep:=ep) Z) t y J fun c K a keep items=>?_)))
 have B:a.toList.length=k.length:=by rw[Array.length_toList];exact items.1
 have C:StrsAre a.toList F:=Lr (P:=X.prog) (w:=X.w) x B fun j v e=>items.2 j v (by rw[<-Array.getElem?_toList];exact e)
 refine wpAny_bind (wpAny_newList ?_ (by rw[B];exact J))
 have f:(c.push {cls:=.type "list",data:=.seq a.toList.toArray}).get? c.objs.size=some (seqObj "list" a.toList.toArray 0):=Heap.get?_push_size _ rfl
 refine wpAny_bind (wpAny_holding (wpAny_call_entry slot_list_sort ⟨_,f,rfl⟩ entry_list_sort (list_sort_treeK strKind_oneLt f C.keysOf (fun L M rest e=>keyKind_strs (by rw[<-e];exact C)) (by rw[B,n];exact p) fun g a1 a2=>⟨_,rfl,?_⟩) (args_list_sort _)))
 obtain⟨i,b1,N,b3⟩:=sorted_out_str C a1 a2
 obtain⟨ee,he⟩:=sortedHeap_at (out:=(arrOf g).map (·.2)) f
 refine wpAny_pure ⟨_,rfl,?_⟩
 have D:(c.push {cls:=.type "list",data:=.seq a.toList.toArray}).objs.size=c.objs.size+1:=size_push' ..
 have O:=I.kept (t':=K) keep
 have k2:∀b o,c.get? b=some o->(sortedHeap (c.push {cls:=.type "list",data:=.seq a.toList.toArray}) c.objs.size a.toList ((arrOf g).map (·.2))).get? b=some o:=fun b o e=>by
  have R:b<c.objs.size:=Heap.lt_size e
  rw[sortedHeap_old (Nat.ne_of_lt R) (by rw[D];exact Nat.lt_succ_of_lt R)]
  exact Heap.get?_push_of_some _ e
 have E:i.length<=sizeLine:=by
  rw[N.length_eq]
  have:=congrArg List.length G
  rw[List.length_map,List.length_map]at this
  rw[<-this]
  exact z
 have new:Ay X.prog X.w (upd H c.objs.size (.lst (i.map V.str))) (sortedHeap (c.push {cls:=.type "list",data:=.seq a.toList.toArray}) c.objs.size a.toList ((arrOf g).map (·.2))) c.objs.size (.lst (i.map V.str)):=
  ⟨by rw[List.length_map];exact E,((arrOf g).map (·.2)).toList,ee,Fu b1,by rw[Array.toArray_toList];exact he⟩
 have S:H c.objs.size=none:=O.fresh
 exact⟨.ref c.objs.size,_,O.laid (t':=K) k2 (Nat.le_refl _) new,rfl,q _ i _ S (AG.new S) AE N b3⟩
end
structure Txt (mg:Str->Option Value):Prop where
 isinstance:mg "isinstance"=none
 int:mg "int"=none
 bool:mg "bool"=none
 str:mg "str"=none
 list:mg "list"=none
 dict:mg "dict"=none
 tuple:mg "tuple"=none
 len:mg "len"=none
 range:mg "range"=none
 max:mg "max"=none
 min:mg "min"=none
 sorted:mg "sorted"=none
 all:mg "all"=none
 any:mg "any"=none
 reversed:mg "reversed"=none
 ValueError:mg "ValueError"=none
 sum:mg "sum"=none
theorem AZ:bootBuiltins "isinstance"=some (.builtin "isinstance"):=by decide+kernel
theorem Zw:bootBuiltins "int"=some (.type "int"):=by decide+kernel
theorem Va:bootBuiltins "bool"=some (.type "bool"):=by decide+kernel
theorem Bv:bootBuiltins "list"=some (.type "list"):=by decide+kernel
theorem CM:bootBuiltins "dict"=some (.type "dict"):=by decide+kernel
theorem JO:bootBuiltins "tuple"=some (.type "tuple"):=by decide+kernel
theorem Co:bootBuiltins "sorted"=some (.builtin "sorted"):=by decide+kernel
theorem Vb:bootBuiltins "all"=some (.builtin "all"):=by decide+kernel
theorem gC:bootBuiltins "any"=some (.builtin "any"):=by decide+kernel
theorem Js:bootBuiltins "reversed"=some (.type "reversed"):=by decide+kernel
theorem BK {c:Bool} {A B:Prop} (a:c=false) (h:B):if c=true then A else B:=by
 rw[a]
 exact As h
theorem Bl {c:Bool} {A B:Prop} (a:c=true) (h:A):if c=true then A else B:=by
 rw[a]
 exact Bq h
theorem FQ {b:Type} {xs:List b} {i:Int} (c:0<=i) (d:i<(xs.length:Int)):∃v,OD xs i=some v/\v∈xs:=by
 obtain⟨n,rfl⟩:=Int.eq_ofNat_of_zero_le c
 have a:n<xs.length:=by lia
 exact⟨xs[n],Av (ACd a),List.getElem_mem a⟩
inductive tW (P:Program) (w:World) (K:ACh) (mg:Str->Option Value) (base:Heap) (x:Str) (ps:List Str) (n:Nat) (sp:Sp):Prop
 |mk (f:Addr) (a:FuncData) (k:PySem.W.keepIn K (.ref f)=true) (b:Binds K a ps []) (m:mg x=some (.ref f)) (G:BX P w K mg base DH n f a ps sp):tW P w K mg base x ps n sp
structure Df (P:Program) (w:World) (K:ACh) (mg:Str->Option Value) (base:Heap) (x:Str) (ps:List Str) (n:Nat) (sp:Sp):Prop where
 ex:tW P w K mg base x ps n sp
theorem Df.mk' {P:Program} {w:World} {K:ACh} {mg:Str->Option Value} {base:Heap} {x q:Str} {st:Stmt} {ps:List Str} {n:Nat} {sp:Sp} {f:Addr} {a:FuncData} (F:Dp K x q st f a) (b:Binds K a ps []) (m:mg x=some (.ref f)) (G:BX P w K mg base DH n f a ps sp):Df P w K mg base x ps n sp:=⟨⟨f,a,F.kp,b,m,G⟩⟩
theorem DX (r:Int) {n:Int} (h:0<n):0<=r % n/\r % n<n:=⟨Int.emod_nonneg _ (by lia),Int.emod_lt_of_pos _ h⟩
def xF (b:Addr) (H c:Hp):Prop:=∀a o,a≠b->H a=some o->c a=some o
def lF (x:Str):Bool:=decide (x.length<=12)&&(sgn x).all Zu
def Rz (v:V):Prop:=(∃i:Int,v=.int i/\i.natAbs<2 ^ 400)∨∃x:Str,v=.str x/\lF x=true
namespace Dc
mutual
def ok:Dc->Prop
 |leaf v=>Rz v
 |row _ xs=>IE xs
 |tab _ ks xs=>(∀k∈ks,CL k=true)/\IE xs
def IE:List Dc->Prop
 |[]=>True
 |x::r=>ok x/\IE r
end
mutual
def named (N:List Str):Dc->Prop
 |leaf _=>True
 |row _ xs=>Qn N xs
 |tab _ ks xs=>(∀k∈ks,k∈N)/\Qn N xs
def Qn (N:List Str):List Dc->Prop
 |[]=>True
 |x::r=>named N x/\Qn N r
end
def lG:Dc->Prop
 |leaf v=>Rz v
 |row _ xs=>xs=[]
 |tab _ ks xs=>ks=[]/\xs=[]
def Uk:Dc->String
 |leaf (.int _)=>"int"
 |leaf _=>"str"
 |row _ _=>"list"
 |tab _ _ _=>"dict"
theorem Zx {H:Hp} {d:Dc} (h:d.At H):Lo H d.val d.Uk:=by
 cases d with
 |leaf v=>
  rcases(show Lf v from h)with⟨i,rfl⟩|⟨x,rfl,_⟩
  ·exact .int i
  ·exact .str x
 |row a b=>simp only[At]at h;exact .lst h.1
 |tab a c b=>simp only[At]at h;exact .dK h.1
def sub:Dc->List V->Option Dc
 |d,[]=>some d
 |row _ xs,.int i::r=>if 0<=i then(xs[i.toNat]?).bind fun x=>sub x r else none
 |tab _ ks xs,.str k::r=>((ks.zip xs).lookup k).bind fun x=>sub x r
 |_,_=>none
def Ib (v:V):Prop:=(∃k:Nat,v=.int (k:Int))∨∃x:Str,v=.str x/\CL x=true
theorem LO {ks:List Str} {xs:List Dc} (h:ks.length=xs.length) {k:Str} (a:k∈ks):∃x,(ks.zip xs).lookup k=some x/\x∈xs:=by
 induction ks generalizing xs with
 |nil=>cases a
 |cons y r b=>
  cases xs with
  |nil=>simp at h
  |cons z c=>
   by_cases e:k=y
   ·subst e
    exact⟨z,by simp,List.mem_cons_self⟩
   ·obtain⟨x,d,f⟩:=b (xs:=c) (by simpa using h) ((List.mem_cons.mp a).resolve_left e)
    refine⟨x,?_,List.mem_cons_of_mem _ f⟩
    have:(k==y)=false:=by simpa using e
    simp[List.zip_cons_cons,List.lookup_cons,this,d]
end Dc
abbrev Zy:Str:="abcdefghijklmnopqrstuvwxyz"
theorem Mt:Zy.length=26:=by decide+kernel
theorem Mu:VT.length=26:=by decide+kernel
theorem Qo (i:Int) (b:0<=i) (d:i<26):∃c,OD (sgn Zy) i=some c/\Zu c=true:=by
 obtain⟨n,rfl⟩:=Int.eq_ofNat_of_zero_le b
 have a:n<VT.length:=by rw[Mu];lia
 exact⟨VT[n],Av (ACd a),Ql (List.getElem_mem a)⟩
theorem Gr (r:Int):0<=r % 26/\r % 26<26:=⟨Int.emod_nonneg _ (by decide),Int.emod_lt_of_pos _ (by decide)⟩
inductive R_ (K:ACh) (vs:List V) (H:Hp) (Q:VK) (b:XK):Prop
 |mk (a:Addr) (ns:List Int) (k:Nat) (c:vs=[.ref a,.int (k:Int)]) (d:Ah K H a (ns.map V.int)) (e:∀r:Int,0<=r->Q (.int r) H):R_ K vs H Q b
def Qp (K:ACh):Sp:=fun b H Q a=>R_ K b H Q a
inductive Vc (vs:List V) (H:Hp) (Q:VK) (a:XK):Prop
 |mk (c:Int) (k:Nat) (b:vs=[.int c,.int (k:Int)]) (d:k<=1000) (e:∀r:Int,0<=r->r<2305843009213693951->Q (.int r) H):Vc vs H Q a
def Dr:Sp:=fun b H Q a=>Vc b H Q a
def Vd:Nat->Int->Int
 |0,n=>n
 |k+1,n=>Vd k n/1000000
def OV (c:Int) (k:Nat):Int:=(((c+3)*1181783497276652981 % 2305843009213693951+((k:Int)+1)*614889782588491411) % 2305843009213693951)*(((c+3)*1181783497276652981 % 2305843009213693951+((k:Int)+1)*614889782588491411) % 2305843009213693951) % 999999999999999989
def Tr (c:Int) (k:Nat):Int:=if c % 4=0/\4*10 ^ 60<=c then Vd k (c/4) % 1000000 else(OV c k+1)*(OV c k/1000003+7) % 2305843009213693951/7919
theorem Ve (c:Int) (k:Nat):0<=Tr c k/\Tr c k<2305843009213693951:=by
 unfold Tr
 split
 ·have a:=Int.emod_nonneg (Vd k (c/4)) (show(1000000:Int)≠0 by decide)
  have b:=Int.emod_lt_of_pos (Vd k (c/4)) (show(0:Int)<1000000 by decide)
  lia
 ·have a:=Int.emod_nonneg ((OV c k+1)*(OV c k/1000003+7)) (show(2305843009213693951:Int)≠0 by decide)
  have b:=Int.emod_lt_of_pos ((OV c k+1)*(OV c k/1000003+7)) (show(0:Int)<2305843009213693951 by decide)
  lia
inductive R' (vs:List V) (H:Hp) (Q:VK) (a:XK):Prop
 |mk (c:Int) (k:Nat) (b:vs=[.int c,.int (k:Int)]) (d:k<=1000) (e:Q (.int (Tr c k)) H):R' vs H Q a
def Vf:Sp:=fun b H Q a=>R' b H Q a
theorem Vg {vs:List V} {H:Hp} {Q:VK} {E:XK} (h:Dr vs H Q E):Vf vs H Q E:=by
 obtain⟨c,k,e,a,q⟩:=h
 exact⟨c,k,e,a,q _ (Ve c k).1 (Ve c k).2⟩
theorem OW {ys:List Str} (P:Nat->Str->Prop) (h:∀(j:Nat) y,ys[j]?=some y->P j y) (inj:∀(i j:Nat) y,i<j->j<ys.length->P i y->P j y->False):ys.Nodup:=by
 refine List.pairwise_iff_getElem.mpr fun i j d b a e=>?_
 have f:=h i _ (ACd d)
 have c:=h j _ (ACd b)
 rw[<-e]at c
 exact inj i j _ a b f c
inductive Vh (vs:List V) (H:Hp) (Q:VK) (a:XK):Prop
 |mk (c:Int) (d:Int) (e:vs=[.int c,.int d]) (f:∀(p:Addr) (ys:List Str) (b:Hp),AG H b->H p=none->b p=some (.lst (ys.map V.str))->ys.length=6->ys.Nodup->(∀y∈ys,CL y=true)->Q (.ref p) b):Vh vs H Q a
inductive YK (vs:List V) (H:Hp) (Q:VK) (a:XK):Prop
 |mk (c:Int) (d:vs=[.int c]) (e:∀v b,Rz v->AG H b->Q v b):YK vs H Q a
inductive YL (vs:List V) (H:Hp) (Q:VK) (e:XK):Prop
 |mk (c:Int) (d:Int) (m:Int) (f:vs=[.int c,.int d,.int m]) (g:∀(p:Dc) (b:Hp),AG H b->p.At b->p.lG->(∀a∈p.addrs,∀o u,b a≠some (.CZ o u))->(∀a∈p.addrs,H a=none)->Q p.val b):YL vs H Q e
def bX (N:List Str) (b:Addr) (y:V) (H d:Hp):Prop:=
 (∃a i,H b=some (.lst a)/\d b=some (.lst (a.take i++y::a.drop i)))∨∃c k,H b=some (.dK c)/\(Sum.inr k:Key)∉c.map (·.1)/\(CL k=true/\k∈N)/\d b=some (.dK (c++[(Sum.inr k,y)]))
inductive YM (K:ACh) (vs:List V) (H:Hp) (Q:VK) (d:XK):Prop
 |mk (b:Addr) (n:Addr) (y:V) (ys:List Str) (c:Int) (f:vs=[.ref b,y,.ref n,.int c]) (g:0<=c) (h:Ah K H n (ys.map V.str)) (i:ys.length<=100) (j:(∀y∈ys,CL y=true)) (k:((∃vs,H b=some (.lst vs)/\vs.length<=1000)∨∃e,H b=some (.dK e)/\e.length<=1000)) (l:(∀a,xF b H a->bX ys b y H a->Q (.bl true) a)) (m:∀a,AG H a->Q (.bl false) a):YM K vs H Q d
structure Made (H H':Hp) (d:Dc):Prop where
 same:AG H H'
 at_:d.At H'
 ok:d.ok
 nd:d.addrs.Nodup
 own:∀a∈d.addrs,∀o u,H' a≠some (.CZ o u)
 new:∀a∈d.addrs,H a=none
inductive bY (K:ACh) (vs:List V) (H:Hp) (Q:VK) (b:XK):Prop
 |mk (a:Addr) (n:Addr) (ns:List Int) (k:Nat) (ys:List Str) (e:vs=[.ref a,.int (k:Int),.ref n]) (f:Ah K H a (ns.map V.int)) (g:ns.length<=63) (h:k<=1000) (i:H n=some (.lst (ys.map V.str))) (j:ys.length<=100) (l:(∀y∈ys,CL y=true)) (m:∀(t:Addr) (d:Dc) (c:Hp),Made H c d->c t=some (.tup [d.val,.int (d.size:Int)])->d.size<=40->(ys≠[]->d.named ys)->Q (.ref t) c):bY K vs H Q b
inductive YN (K:ACh) (vs:List V) (H:Hp) (Q:VK) (b:XK):Prop
 |mk (a:Addr) (n:Addr) (ns:List Int) (k:Nat) (ys:List Str) (e:vs=[.ref a,.int (k:Int),.ref n]) (f:Ah K H a (ns.map V.int)) (g:ns.length<=63) (h:k<=1000) (i:H n=some (.lst (ys.map V.str))) (j:ys.length<=100) (l:(∀y∈ys,CL y=true)) (m:∀(t:Addr) (d:Dc) (c:Hp),Made H c d->c t=some (.tup [d.val,.int (d.size:Int)])->d.size<=24->(ys≠[]->d.named ys)->Q (.ref t) c):YN K vs H Q b
inductive Vj (K:ACh) (vs:List V) (H:Hp) (Q:VK) (b:XK):Prop
 |mk (a:Addr) (ns:List Int) (d:vs=[.ref a]) (e:Ah K H a (ns.map V.int)) (f:ns.length<=63) (g:∀c,Q (.bl true) c):Vj K vs H Q b
def OX (K:ACh):Sp:=fun b H Q a=>Vj K b H Q a
theorem Ad {n:Nat} (h:n<=1000):n<=sizeLine:=Nat.le_of_lt (BN h)
theorem Az {x y:V}:[x,y].length<=sizeLine:=Ad (show 2<=1000 by decide)
theorem Bs {x:V}:[x].length<=sizeLine:=Ad (show 1<=1000 by decide)
theorem Ts (us:List V) (a:V):GN (us++[a]) none (some (-1))=us:=by
 have b:HT.FJ (us++[a]).length (us++[a]).length (some (-1))=us.length:=by
  simp only[HT.FJ,List.length_append,List.length_singleton]
  rw[if_pos (by decide)]
  lia
 unfold GN
 rw[b,HT.VA,List.drop_zero,Nat.sub_zero]
 exact List.take_left
theorem Ic {P:Program} {w:World} {K:ACh} {mg:Str->Option Value} {base:Heap} {f:Addr} {b:FuncData} {ps:List Str} {sp:Sp} (a:∀vs H Q E,¬sp vs H Q E):BX P w K mg base DH 0 f b ps sp:=
 ⟨fun vs H Q E h=>absurd h (a vs H Q E),fun A outer s H args c vs Q E _ _ _ _ h=>absurd h (a vs H Q E)⟩
theorem Qq {t u:TS} {D:Ends} {σ:St} {H:Hp} (R:Hp->Prop) (k:∀a,R a->u D σ a) (h:(∀a,R a->u D σ a)->t {D with nx:=u D} σ H):QO t u D σ H:=h k
structure lH (H Hi:Hp) (d:Dc) (L:Addr) (ts:List Addr):Prop where
 made:Made H Hi d
 nL:H L=none
 eL:Hi L=some (.lst (ts.map V.ref))
 out:L∉d.addrs
 hold:∀t∈ts,∃b k,Hi t=some (.tup [.ref b,.int k])/\b∈d.addrs
namespace Dc
mutual
def slim:Dc->Prop
 |leaf _=>True
 |row _ xs=>Jt xs
 |tab _ _ xs=>xs.length<64/\Jt xs
def Jt:List Dc->Prop
 |[]=>True
 |x::r=>slim x/\Jt r
end
theorem IF:∀{xs:List Dc},Jt xs->∀x∈xs,slim x
 |[],_,x,a=>nomatch a
 |y::r,h,x,a=>by
  simp only[Jt]at h
  rcases List.mem_cons.mp a with rfl|a
  ·exact h.1
  ·exact IF h.2 x a
def xG (ks:List Str) (xs:List Dc) (k:Str):Nat:=(((ks.zip xs).lookup k).map size).getD 0
end Dc
section
variable{X:Cx} {pins:List (Addr×Obj)} {σ:St} {H:Hp} {s:Shared} {a:Addr} {kvs:List (Key×V)}
theorem Inv.freeze (I:Inv X pins σ H s) (e:H a=some (.dK kvs)):∃o,s.heap.get? a=some o/\Inv X pins σ (upd H a (.CZ o (.dK kvs))) s:=by
 have ok:=(show Ay X.prog X.w H s.heap a (.dK kvs)from I.BO a _ e)
 obtain⟨z,g,h,i,o,j,k,f,r⟩:=id ok
 refine⟨o,f,?_⟩
 have c:∀b u,H b=some u->u≠.dK kvs->b≠a:=fun b u q n w=>by
  subst w
  rw[e]at q
  exact n (ACf q).symm
 have un:Un X.fs [] H (upd H a (.CZ o (.dK kvs))) s.heap s.heap:=
  ⟨fun b d q _ _ _=>q,fun b d q _ _ _=>⟨d.slots,q⟩,fun b d q n _=>by rw[AJ (fun w=>by subst w;rw[e]at n;cases n)];exact n,fun b d q _=>⟨d,q⟩,
   fun b l q=>by rw[AJ (c b _ q (by intro z;cases z))];exact q,fun b d u q=>by rw[AJ (c b _ q (by intro z;cases z))];exact q,fun b m q=>⟨#[],by rw[AJ (c b _ q (by intro z;cases z)),q];simp⟩⟩
 have BO:GQ X.prog X.w (upd H a (.CZ o (.dK kvs))) s.heap:=I.BO.write (by rw[e];trivial) (.inl rfl) (fun b u _ q=>q) ⟨o,f⟩ ⟨f,ok⟩
 exact I.un (h':=s.heap) (t':=s.toks) un BO
theorem Inv.Vk {o:Obj} (I:Inv X pins σ H s) (e:H a=some (.CZ o (.dK kvs))) (nf:∀o u,X.H₀ a≠some (.CZ o u)):Inv X pins σ (upd H a (.dK kvs)) s:=by
 have ok:=(show Ay X.prog X.w H s.heap a (.CZ o (.dK kvs))from I.BO a _ e)
 have d:∀b u,H b=some u->u≠.CZ o (.dK kvs)->b≠a:=fun b u q n w=>by
  subst w
  rw[e]at q
  exact n (ACf q).symm
 have f:∀b,H b=none->b≠a:=fun b n w=>by subst w;rw[e]at n;cases n
 have B:=I.base
 refine⟨I.ok,I.os,I.bare,⟨B.keep,B.slot,fun b g q n i=>by rw[AJ (f b (B.free b g q n i))];exact B.free b g q n i,B.there,fun b h q=>by rw[AJ (d b _ (B.Ja b h q) (by intro z;cases z))];exact B.Ja b h q,
  fun b g u q=>by rw[AJ (fun w=>nf g u (by rw[<-w];exact q))];exact B.Hz b g u q,fun b m q=>?_⟩,I.loc,I.cell,by rw[AJ (f _ I.free)];exact I.free,fun x c q=>by rw[AJ (f _ (I.Dl x c q))];exact I.Dl x c q,
  fun p t=>let⟨y,j,A⟩:=I.pin p t;⟨y,by rw[AJ (f _ j)];exact j,A⟩,fun b u q=>?_,I.len⟩
 ·obtain⟨more,k⟩:=B.LG b m q
  exact⟨more,by rw[AJ (d b _ k (by intro z;cases z))];exact k⟩
 ·by_cases l:b=a
  ·subst l
   rw[AE]at q
   cases q
   exact ok.2
  ·rw[AJ l]at q
   exact(I.BO b u q).QL (fun c v _ r=>r) (fun c r=>by rw[AJ (d c _ r (by intro z;cases z))];exact r) fun c h r=>by rw[AJ (d c _ r (by intro z;cases z))];exact r
theorem Inv.nf (I:Inv X pins σ H s) (e:H a=some (.dK kvs)):∀o u,X.H₀ a≠some (.CZ o u):=fun o u q=>by
 have:=I.base.Hz a o u q
 rw[e]at this
 cases this
end
def Mv (a:Addr) (o:Obj) (kvs:List (Key×V)) (k:Hp->Prop):Hp->Prop:=fun H=>H a=some (.CZ o (.dK kvs))/\k (upd H a (.dK kvs))
inductive Vl (t:TE) (σ:St) (H:Hp) (Q:VK):Prop
 |mk (a:_) (kvs:_) (b:H a=some (.dK kvs)) (c:∀o,t σ (upd H a (.CZ o (.dK kvs))) fun v=>Mv a o kvs (Q v)):Vl t σ H Q
def gD (t:TE):TE:=fun a H Q=>Vl t a H Q
inductive Vm (t:TS) (D:Ends) (σ:St) (H:Hp):Prop
 |mk (a:_) (kvs:_) (b:H a=some (.dK kvs)) (c:∀o,t ⟨fun σ=>Mv a o kvs (D.nx σ),fun v=>Mv a o kvs (D.rt v),fun σ=>Mv a o kvs (D.bk σ),fun σ=>Mv a o kvs (D.ct σ)⟩ σ (upd H a (.CZ o (.dK kvs)))):Vm t D σ H
def gE (t:TS):TS:=fun D a H=>Vm t D a H
section
variable{X:Cx}
theorem bZ {e:Expr} {t:TE} (h:PE X e t):PE X e (gD t):=by
 rintro pins s c H Q I ⟨a,kvs,b,d⟩
 obtain⟨o,l,f⟩:=I.freeze b
 exact Bo (h pins s c _ _ f (d o)) fun u m ⟨v,n,g,i,j,k⟩=>⟨v,_,g.Vk j (I.nf b),i,k⟩
theorem bc {st:Stmt} {t:TS} (h:PS X st t):PS X st (gE t):=by
 rintro pins s k H D I ⟨a,kvs,g,l⟩
 obtain⟨o,p,m⟩:=I.freeze g
 refine Bo (h pins s k _ _ m (l o)) fun f q i=>?_
 cases f with
 |next=>obtain⟨b,j,c,d,e⟩:=i;exact⟨b,_,c.Vk d (I.nf g),e⟩
 |brk=>obtain⟨b,j,c,d,e⟩:=i;exact⟨b,_,c.Vk d (I.nf g),e⟩
 |cont=>obtain⟨b,j,c,d,e⟩:=i;exact⟨b,_,c.Vk d (I.nf g),e⟩
 |ret u=>obtain⟨v,b,j,c,n,d,e⟩:=i;exact⟨v,b,_,c.Vk d (I.nf g),n,e⟩
theorem DY {e:Expr} {t u:TE} (h:PE X e t) (h':PE X e u):PE X e (fun σ H Q=>t σ H Q∨u σ H Q):=by
 rintro pins s σ H Q I (q|q)
 ·exact h pins s σ H Q I q
 ·exact h' pins s σ H Q I q
theorem Qr {e:Stmt} {t u:TS} (h:PS X e t) (h':PS X e u):PS X e (fun D σ H=>t D σ H∨u D σ H):=by
 rintro pins s σ H D I (q|q)
 ·exact h pins s σ H D I q
 ·exact h' pins s σ H D I q
end
def dy (a:Addr) (o:Obj) (kvs:List (Key×V)):It:=
 ⟨fun i H=>H a=some (.CZ o (.dK kvs))/\i<kvs.length,fun i H x b=>b=H/\∃k v,kvs[i]?=some (k,v)/\x=kV k,fun i H=>H a=some (.CZ o (.dK kvs))/\i=kvs.length⟩
def gF (c:TE):TI:=fun d H R=>c d H fun x b=>∃a o kvs,x=.ref a/\b a=some (.CZ o (.dK kvs))/\R (dy a o kvs) b
theorem YO {P:Program} {w:World} {k:Key} {u:Value} (h:(Am P w).is k u=true):RelV (kV k) u:=by
 rcases Bd (k:=k) (v:=u) h with⟨i,t,rfl,rfl⟩|⟨x,t,rfl,rfl⟩
 ·exact⟨t,rfl⟩
 ·exact⟨t,rfl⟩
theorem Tt {P:Program} {w:World} {K:ACh} {tg:Expr} {a it:Addr} {o:Obj} {kvs:List (Key×V)} {vs:List (Key×Value)} {ep:Nat} (YQ:a≠it) (rel:KV kvs vs) (hD:∀h:Heap,h.get? a=some o->h.DictAt (Am P w) a vs ep):
  Turn P w K tg (dy a o kvs) [it] it (fun i h=>h.IsKeyIter it a i vs.length ep)where
 mem:=by simp
 obj:=fun i h st b hb=>by
  have e:b=it:=by simpa using hb
  subst e
  obtain⟨ob,h1,_,h3⟩:=st
  exact⟨ob,h1,fun v z=>by rw[h3]at z;cases z⟩
 keep:=fun i h h' st k=>st.at fun ob e=>k it (by simp) ob e
 item:=fun X hp hw _ hc i pins s σ H E I hf st go=>by
  subst hp hw
  have f:=hf it (by simp)
  obtain⟨ga,gi⟩:=go
  have lI:=hD s.heap (show Ay X.prog X.w H s.heap a (.CZ o (.dK kvs))from I.BO a _ ga).1
  refine(Walks.dictKeys (knd:=Am X.prog X.w) (I.ok.hd hc) it a YQ vs ep).item i s _ E (by rw[<-rel.length];exact gi) ⟨st,lI⟩ fun v h' tk hP Nj kept=>?_
  obtain⟨k,x,xH,hk⟩:=hP
  obtain⟨ob,h1,h2,h3⟩:=Nj.1
  have xI:∃y,kvs[i]?=some (k,y):=by
   have e:=congrArg (fun l=>l[i]?) (KV.keys rel)
   simp only[List.getElem?_map,xH,ACd gi]at e
   have e:kvs[i].1=k:=by simpa using e
   exact⟨kvs[i].2,by rw[ACd gi,<-e]⟩
  obtain⟨y,hy⟩:=xI
  refine⟨v,rfl,Lc (o:=ob) h1 h2 h3 (by decide) ⟨kV k,H,I.turned (fun b xJ hb e=>kept b xJ (by simp[hb]) e) f.1 f.2.1 f.2.2.2.1 f.2.2.2.2.1 f.2.2.2.2.2,YO hk,⟨rfl,k,y,hy,rfl⟩,Nj.1,fun b hb=>?_⟩⟩
  have e:b=it:=by simpa using hb
  subst e
  exact f.1
 done:=fun X hp hw _ hc i pins s σ H E I hf st stop=>by
  subst hp hw
  have f:=hf it (by simp)
  obtain⟨ga,gi⟩:=stop
  have gi:i=vs.length:=by rw[gi];exact rel.length
  subst gi
  have lI:=hD s.heap (show Ay X.prog X.w H s.heap a (.CZ o (.dK kvs))from I.BO a _ ga).1
  refine(Walks.dictKeys (knd:=Am X.prog X.w) (I.ok.hd hc) it a YQ vs ep).done s _ E ⟨st,lI⟩ fun h' tk kept=>?_
  exact⟨rfl,I.turned (fun b ob hb e=>kept b ob (by simp[hb]) e) f.1 f.2.1 f.2.2.2.1 f.2.2.2.2.1 f.2.2.2.2.2⟩
 self:=fun A i s Q E st hQ=>wpAny_pyIter_keyiter st hQ
section
variable{X:Cx} {tg:Expr}
theorem JP {l:Expr} {k:TE} (hl:PE X l k):PI X tg l (gF k):=by
 intro pins s p H R I h
 refine Bo (hl pins s p H _ I h) fun v c r=>r.elim fun x m g t u=>?_
 obtain⟨a,o,kvs,rfl,y,q⟩:=u
 cases t
 have ok:=(show Ay X.prog X.w m c.heap a (.CZ o (.dK kvs))from g.BO a _ y)
 obtain⟨n,z,A,F,i,B⟩:=ok
 obtain⟨G,d⟩:=B.dictAt
 obtain⟨J,C,f,D⟩:=id d
 rw[n]at f
 cases f
 have j:a<c.heap.objs.size:=Heap.lt_size n
 refine wpAny_pyIter_dict A d ⟨c.heap.objs.size,[c.heap.objs.size],_,dy a o kvs,m,rfl,g.kept (t':=c.toks) fun b K e=>Heap.get?_push_of_some _ e,
  Tt (Nat.ne_of_lt j) i (fun h e=>⟨o,C,e,D⟩),⟨_,Heap.get?_push_size _ rfl,rfl,rfl⟩,fun b E=>?_,q⟩
 have e:b=c.heap.objs.size:=by simpa using E
 subst e
 exact g.QR (Nat.le_refl _) g.fresh
end
theorem Vn {a:Addr} {o:Obj} {kvs:List (Key×V)} {g:TG} {j:TS} {D:Ends} {σ:St} {H:Hp} (Pv:Nat->St->Hp->Prop) (n:Pv 0 σ H) (hl:∀i σ H,i<=kvs.length->Pv i σ H->H a=some (.CZ o (.dK kvs)))
  (r:∀i k v σ H,kvs[i]?=some (k,v)->Pv i σ H->g (kV k) σ H fun b H2=>j {D with nx:=Pv (i+1),ct:=Pv (i+1),bk:=D.nx} b H2) (s:∀σ H,Pv kvs.length σ H->D.nx σ H):
  ∃W:Nat->Nat->St->Hp->Prop,(∃m,W 0 m σ H)/\∀i m σ H,W i m σ H->
   ((dy a o kvs).stop i H/\D.nx σ H)∨((dy a o kvs).go i H/\∃N:St->Hp->Prop,(∀c d,N c d->∃l,l<m/\W (i+1) l c d)/\∀x d,(dy a o kvs).TN i H x d->g x σ d fun b H2=>j {D with nx:=N,ct:=N,bk:=D.nx} b H2):=by
 refine⟨fun i m σ H=>m=kvs.length-i/\i<=kvs.length/\Pv i σ H,⟨kvs.length,by simp,Nat.zero_le _,n⟩,?_⟩
 rintro i m σ H ⟨rfl,t,p⟩
 have q:=hl i σ H t p
 by_cases f:i<kvs.length
 ·refine .inr ⟨⟨q,f⟩,Pv (i+1),fun c d u=>⟨kvs.length-(i+1),by lia,rfl,f,u⟩,fun x d y=>?_⟩
  obtain⟨e,k,v,h,rfl⟩:=y
  subst e
  exact r i k v σ _ h p
 ·have e:i=kvs.length:=by lia
  subst e
  exact .inl ⟨⟨q,rfl⟩,s σ H p⟩
def FR (H a:Hp):Prop:=∀b u,Rd H b u->Rd a b u
theorem AG.r {H a:Hp} (s:AG H a):FR H a:=fun b u r=>r.up fun o=>s b o
theorem FR.trans {H a H2:Hp} (s:FR H a) (t:FR a H2):FR H H2:=fun b u r=>t b u (s b u r)
theorem FR.CZ {H:Hp} {a:Addr} {o:Obj} {kvs:List (Key×V)} (e:H a=some (.dK kvs)):FR H (upd H a (.CZ o (.dK kvs))):=fun b u r=>by
 by_cases c:b=a
 ·subst c
  rcases r with r|⟨d,r⟩
  ·rw[e]at r;cases r;exact .inr ⟨o,AE⟩
  ·rw[e]at r;cases r
 ·exact r.up fun d q=>by rw[AJ c];exact q
end L2
namespace PySem
open PyProof.Rows PySem.F PySem.Spec
theorem Ju:typeLookup (.type "list") "keys"=pure none:=by rw[typeLookup_type,builtinLookup_eq_fast];kernel_rfl
theorem Jv {prog:Program} {w:World} {A:Around} {E:Value->Shared->Prop} {s:Shared} {a:Addr} {o:Obj} {xs:Array Value} {k:Nat} {Q:Option Value->Shared->Prop}
  (j:s.heap.get? a=some o) (l:o.cls=.type "list") (b:o.data=.seq xs k) (m:o.dict=none) (hA:A.handled=none)
  (h:∀h' tk e,Heap.NewExcOf s.heap h' e "AttributeError"->Q none {s with heap:=h',toks:=tk}):
  wpAny (model prog w) A (getAttr? (.ref a) "keys") Q E s:=by
 obtain⟨c,BM,p,q⟩:=o
 simp only at l b m
 subst l b m
 obtain⟨r,g,d,tk,os⟩:=s
 have n:∀f,(⟨r,g,d,f,os⟩:Shared).TypeIs (.ref a) "list":=fun _=>⟨_,j,rfl⟩
 have t:=sub_AttributeError
 have u:=F.slot_list_getattribute.lookup
 have v:=F.slot_list_getattribute.bind (.ref a)
 have x:=am_list_getattr_none
 unfold getAttr? getAttrBy? getAttrBy
 repeat (any_goals (first|assumption|exact n _|((with_reducible show wpAny _ _ (call (Value.builtin "list.__getattribute__") _ _) _ _ _);refine call_meets F.slot_list_getattribute (n _) am_entry_list_getattribute (F.args_list_getattribute_2 _ _) (meets_getattribute_miss_list a xs k q "keys" _ Ju (by decide+kernel) (by decide+kernel)) ⟨j,hA,fun h' f e i=>?_⟩)|wp_step))
 obtain⟨y,z,B⟩:=i.there
 show wpAny _ _ (getattributeRaised _ _ _ _ _ _ _) _ _ _
 unfold getattributeRaised
 repeat (any_goals (first|assumption|wp_step))
 exact h _ _ _ i.of
theorem Ca:entryFor table "dict.update.loop"=some Builtin.«dict.update.loop»:=entryFor_of_tree (by kernel_rfl)
theorem BW:plainId "dict.update.loop"=true:=by decide+kernel
section
variable{prog:Program} {w:World} {K:Type} [DecidableEq K] {knd:KeyKind prog w K} {A:Around} {R:Result->Shared->Prop}
theorem Tu {I l d:Addr} {items:Array Value} {more:List (K×Value)} (hh:A.handled=none) (F:l≠I) (h:d≠I) (G:d≠l) (hlen:items.size=more.length) (hsz:more.length<=100000):
  ∀(k i:Nat) (s:Shared),more.length-i=k->i<=more.length->s.heap.IsListIter I l i->s.heap.IsList l items->s.heap.DictOf knd d (merged [] (more.take i))->
   (∀(j:Nat) x c,more[j]?=some (x,c)->∃t a,items[j]?=some (.ref t)/\t≠d/\t≠I/\IsTup s.heap t #[a,c]/\knd.is x a=true)->
   (∀h' tk,h'.DictOf knd d (merged [] more)->(∀b o,b≠d->b≠I->s.heap.get? b=some o->h'.get? b=some o)->R (.ok (.ret .none)) {s with heap:=h',toks:=tk})->
   codeAny (model prog w) A (.builtin "dict.update.loop" ⟨[.ref d,.ref I,rawInt (i:Int),.none],[]⟩) R s:=by
 have W:=Walks.list (prog:=prog) (w:=w) (A:=A.in1) hh I l F items
 intro k
 induction k with
 |zero=>
  intro i s hk hi m H D J L
  have M:i=more.length:=by lia
  subst M
  refine codeAny_builtin Ca ?_
  rw[Around.under_plainId BW _]
  show wpAny _ A.in1 (pyNext (.ref I)>>=_) _ _ s
  refine wpAny_bind (W.done s _ _ (by rw[hlen];exact⟨m,H⟩) fun h' tk kept=>?_)
  rw[List.take_length]at D
  obtain⟨o,N,O,P,r⟩:=D
  show wpAny _ A.in1 (Builtin.Dict.addKeywords d []>>=_) _ _ _
  exact wpAny_bind (wpAny_pure (wpAny_pure (L h' tk ⟨o,N,O,kept _ _ (by simp[h]) P,r⟩ fun b o _ hb e=>kept b o (by simp[hb]) e)))
 |succ k ih=>
  intro i s hk hi m H D J L
  have n:i<more.length:=by lia
  obtain⟨⟨x,c⟩,hm⟩:∃p,more[i]?=some p:=⟨_,ACd n⟩
  obtain⟨t,a,ht,td,tI,tup,f⟩:=J i x c hm
  refine codeAny_builtin Ca ?_
  rw[Around.under_plainId BW _]
  show wpAny _ A.in1 (pyNext (.ref I)>>=_) _ _ s
  refine wpAny_bind (W.item i s _ _ (by rw[hlen];exact n) ⟨m,H⟩ fun v h' tk hv y kept=>?_)
  rw[ht]at hv
  cases hv
  obtain⟨ot,Q,q,nt,z⟩:=tup
  have g:h'.get? t=some ot:=kept _ _ (by simp[tI]) Q
  have hT:({s with heap:=h',toks:=tk}:Shared).TypeIs (.ref t) "tuple":=⟨_,g,q⟩
  obtain⟨ct,dt,dat,slt⟩:=ot
  simp only at q z
  subst q z
  obtain⟨o,N,O,P,r⟩:=id D
  have S:h'.DictOf knd d (merged [] (more.take i)):=⟨o,N,O,kept _ _ (by simp[h]) P,r⟩
  have T:(merged [] (more.take i)).length<=sizeLine:=by
   have:=merged_length_le ([]:List (K×Value)) (more.take i)
   rw[List.length_take,List.length_nil]at this
   have e:sizeLine=16777216:=sizeLine_eq
   lia
  show wpAny _ A.in1 (holding [Value.ref t] _>>=_) _ _ _
  refine wpAny_bind (wpAny_holding (wpAny_bind (wpAny_tryCatch ?_)))
  unfold Builtin.Dict.pairItems
  refine wpAny_bind (wpAny_typeOf hT ?_)
  rw[if_pos (by decide)]
  unfold seqItems?
  refine wpAny_bind ?_
  refine wpAny_bind (wpAny_load g ?_)
  refine wpAny_pure (wpAny_pure ?_)
  show wpAny _ A.in1 (holding [a,c] (dictSet d a c)) _ _ _
  refine wpAny_holding ?_
  unfold dictSet
  try with_reducible refine wpAny_holding ?_
  refine wpAny_bind (knd.pyHash f ?_)
  refine wpAny_dictSetHashed_pairs (hsz:=T) f S fun h2 B u=>?_
  have e1:stored (merged [] (more.take i)) x c=merged [] (more.take (i+1)):=(merged_take_succ [] more i (x,c) hm).symm
  rw[e1]at B
  have kp:∀b o,b≠d->b≠I->s.heap.get? b=some o->h2.get? b=some o:=fun b o E U e=>by
   rw[u.2 b E]
   exact kept b o (by simp[U]) e
  have ic:((i:Int)+1)=((i+1:Nat):Int):=by simp
  refine wpAny_pure ⟨plainId_quiet BW _,?_⟩
  rw[ic]
  refine ih (i+1) _ (by lia) n (y.1.at fun o e=>by rw[u.2 I (Ne.symm h)];exact e) (y.2.at fun o e=>by rw[u.2 l (Ne.symm G)];exact e) B (fun j k2 v2 hj=>?_) (fun U V X Y=>L U V X fun b o E h4 e=>Y b o E h4 (kp b o E h4 e))
  obtain⟨t2,C,a1,a2,a3,⟨Z,b1,b2⟩,a5⟩:=J j k2 v2 hj
  exact⟨t2,C,a1,a2,a3,⟨Z,kp _ _ a2 a3 b1,b2⟩,a5⟩
end
end PySem
namespace L2
open PySem PySem.Spec PyProof.Rows
section
variable{X:Cx}
inductive SD (K:ACh) (xs:List V) (H:Hp) (Q:VK):Prop
 |mk (l:Addr) (ts:List Addr) (kvs:List (Key×V)) (a:xs=[.ref l]) (b:Ah K H l (ts.map V.ref)) (c:ts.length=kvs.length) (d:(∀(j:Nat) k v,kvs[j]?=some (k,v)->∃t,ts[j]?=some t/\H t=some (.tup [kV k,v]))) (e:kvs.length<=1000) (f:∀p,H p=none->Q (.ref p) (upd H p (.dK (CT [] kvs)))):SD K xs H Q
def bg (K:ACh):List V->Hp->VK->Prop:=fun a H Q=>SD K a H Q
theorem Cb (hc:X.calm=true):BJ X (.type "dict") (bg X.K):=by
 intro pins s σ H xs us Q I r h
 obtain⟨l,f,kvs,rfl,hl,hlen,hp,hz,q⟩:=h
 obtain⟨u,rfl,ru⟩:=vals1 r
 cases ru
 obtain⟨n,rv,pl,_⟩:=I.list hl
 obtain⟨W,nl,L,x,Y,C⟩:=id pl
 have M:X.A.in1.handled=none:=I.ok.hd hc
 refine callType_codes (Q₁:=fun N B=>N=.ref s.heap.objs.size/\B={s with heap:=s.heap.push {cls:=.type "dict",data:=.dict #[]}}) F.kt_called_dict (F.kt_typeCall_dict_1 _) F.entry_dict_init (kt_code_dict_new _ ⟨rfl,rfl⟩) ?_
 rintro N B ⟨rfl,rfl⟩
 have g:(s.heap.push {cls:=.type "dict",data:=.dict #[]}).DictOf (Am X.prog X.w) s.heap.objs.size []:=Heap.DictOf.new s.heap
 refine⟨g.typeIs,F.args_dict_init_2 _ _,?_⟩
 unfold Builtin.«dict.__init__»
 refine wpAny_bind ?_
 unfold Builtin.Dict.selfAndRest
 refine wpAny_bind (wpAny_notOrdered_dict g.typeIs ?_)
 show wpAny _ _ (pure (s.heap.objs.size,[Value.ref l])) _ _ _
 refine wpAny_pure ?_
 show wpAny _ _ (Builtin.Dict.updateFrom "dict.__init__" s.heap.objs.size (.ref l) [] .none) _ _ _
 unfold Builtin.Dict.updateFrom
 have c:(s.heap.push {cls:=.type "dict",data:=.dict #[]}).get? l=some W:=Heap.get?_push_of_some _ L
 have Z:({s with heap:=s.heap.push {cls:=.type "dict",data:=.dict #[]}}:Shared).TypeIs (.ref l) "list":=⟨_,c,x⟩
 refine wpAny_bind (wpAny_typeOf Z ?_)
 rw[if_pos (by decide)]
 refine wpAny_bind (Jv c x C Y M fun D xK e1 ne1=>?_)
 rw[if_pos (show(Option.isNone (none:Option Value))=true from rfl)]
 have i:∀b o,(s.heap.push {cls:=.type "dict",data:=.dict #[]}).get? b=some o->D.get? b=some o:=ne1.keeps
 have O:∀b o,s.heap.get? b=some o->D.get? b=some o:=fun b o e=>i b o (Heap.get?_push_of_some _ e)
 have dz:D.IsList l n.toArray:=⟨W,i _ _ c,x,nl,C⟩
 refine wpAny_bind (wpAny_rule ?_)
 refine wpAny_bind (wpAny_pyIter_list dz ?_)
 refine wpAny_pure ⟨plainId_quiet BW _,?_⟩
 obtain⟨od,es,ep,P,rd⟩:=id g
 have y:s.heap.objs.size<D.objs.size:=Heap.lt_size (i _ _ P)
 have R:l<s.heap.objs.size:=Heap.lt_size L
 have xM:∀kvs:List (Key×V),(∀p∈kvs,∃(t:Addr),H t=some (.tup [kV p.1,p.2]))->True:=fun _ _=>trivial
 have E:∀(t:Addr) k v,H t=some (.tup [kV k,v])->∃a d,IsTup s.heap t #[a,d]/\(Am X.prog X.w).is k a=true/\RelV v d:=fun t k v e=>by
  obtain⟨z,r2,tp,_⟩:=I.tuple (Bj.of e)
  cases r2 with
  |cons ra rr=>
   cases rr with
   |cons rb rr=>
    cases rr
    exact⟨_,_,tp,Gm ra,rb⟩
 obtain⟨more,G⟩:∃more:List (Key×Value),KV kvs more/\∀(j:Nat) m d,more[j]?=some (m,d)->∃t a,f[j]?=some t/\IsTup s.heap t #[a,d]/\(Am X.prog X.w).is m a=true:=by
  have gen:∀(kvs:List (Key×V)) (f:List Addr),(∀(j:Nat) k v,kvs[j]?=some (k,v)->∃t,f[j]?=some t/\H t=some (.tup [kV k,v]))->
    ∃more:List (Key×Value),KV kvs more/\∀(j:Nat) m d,more[j]?=some (m,d)->∃t a,f[j]?=some t/\IsTup s.heap t #[a,d]/\(Am X.prog X.w).is m a=true:=by
   intro kvs
   induction kvs with
   |nil=>exact fun f _=>⟨[],.nil,fun j m d e=>by simp at e⟩
   |cons p r ih=>
    intro f h
    obtain⟨k,v⟩:=p
    obtain⟨t,e1,e2⟩:=h 0 k v rfl
    obtain⟨a,d,a1,a2,a3⟩:=E t k v e2
    obtain⟨more,b1,b2⟩:=ih f.tail (fun j k v e=>by
     obtain⟨t,c1,c2⟩:=h (j+1) k v (by simpa using e)
     exact⟨t,by rw[List.getElem?_tail];exact c1,c2⟩)
    refine⟨(k,d)::more,.cons ⟨rfl,a3⟩ b1,fun j m S e=>?_⟩
    cases j with
    |zero=>
     have e:(k,d)=(m,S):=by simpa using e
     cases e
     exact⟨t,a,e1,a1,a2⟩
    |succ j=>
     obtain⟨t,a,c1,c2,c3⟩:=b2 j m S (by simpa using e)
     exact⟨t,a,by rw[List.getElem?_tail]at c1;exact c1,c2,c3⟩
  exact gen kvs f hp
 obtain⟨J,hm⟩:=G
 have T:n.length=f.length:=by rw[<-rv.length,List.length_map]
 have U:∀(j:Nat) t,f[j]?=some t->n.toArray[j]?=some (.ref t):=fun j t e=>by
  obtain⟨u,D,h2⟩:=rv.get (show(f.map V.ref)[j]?=some (.ref t)by rw[List.getElem?_map,e];rfl)
  cases h2
  simpa using D
 show codeAny _ _ (.builtin "dict.update.loop" ⟨[.ref s.heap.objs.size,.ref D.objs.size,rawInt ((0:Nat):Int),.none],[]⟩) _ _
 refine Tu (knd:=Am X.prog X.w) (l:=l) (items:=n.toArray) (more:=more) M (Nat.ne_of_lt (Nat.lt_trans R y)) (Nat.ne_of_lt y) (Nat.ne_of_gt R) (by rw[List.size_toArray,T,hlen];exact J.length) (by rw[<-J.length];lia) more.length 0 _ (by simp) (Nat.zero_le _)
  ⟨_,Heap.get?_push_size _ rfl,rfl,rfl⟩ ⟨W,Heap.get?_push_of_some _ (i _ _ c),x,nl,C⟩ ⟨od,es,ep,Heap.get?_push_of_some _ (i _ _ P),rd⟩ (fun j m d e=>?_) (fun h2 lJ hd2 lK=>⟨rfl,?_⟩)
 ·obtain⟨t,a,c1,⟨ot,c2,xN⟩,c3⟩:=hm j m d e
  have:t<s.heap.objs.size:=Heap.lt_size c2
  exact⟨t,a,U j t c1,Nat.ne_of_lt this,Nat.ne_of_lt (Nat.lt_trans this y),⟨ot,Heap.get?_push_of_some _ (O _ _ c2),xN⟩,c3⟩
 ·have bh:(CT [] kvs).length<=sizeLine:=by
   have:=C_ kvs []
   exact Ad (by simp at this;lia)
  refine⟨.ref s.heap.objs.size,_,I.laid (t':=lJ) (fun b o e=>?_) (Nat.le_refl _) (ID bh (beq_eq_false_iff_ne.mpr (Ne.symm (Nat.ne_of_lt I.big))) (KV.merge J .nil) hd2),rfl,q _ I.fresh⟩
  have:=Heap.lt_size e
  exact lK b o (Nat.ne_of_lt this) (Nat.ne_of_lt (Nat.lt_trans this y)) (Heap.get?_push_of_some _ (O _ _ e))
end
theorem Vo {x:V} (h:Cd x=true):OE x x=true:=by
 cases x<;>simp_all [Cd,OE]
theorem Tv {xs:List V} (h:∀z∈xs,Cd z=true):LM xs xs=true:=by
 unfold LM
 rw[Nat.min_self,Bool.and_eq_true]
 refine⟨List.all_eq_true.mpr fun j a=>?_,beq_self_eq_true _⟩
 have a:=List.mem_range.mp a
 rw[List.getD_eq_getElem?_getD,ACd a]
 exact Vo (h _ (List.getElem_mem a))
section
variable{X:Cx}
theorem Tw {pins:List (Addr×Obj)} {σ:St} {H:Hp} {s:Shared} {A:Around} {xs ys:List V} {its a:List Value} (d:Vals xs its) (e:Vals ys a) (f:∀z∈xs,Cd z=true) (g:∀z∈ys,Cd z=true)
  (j:Nat) (h:j<its.toArray.size) (i:j<a.toArray.size):SeqAt.EqAt A s its.toArray[j] a.toArray[j] (OE (xs.getD j .BV) (ys.getD j .BV)):=by
 have k:its.toArray.size=xs.length:=by rw[List.size_toArray];exact d.length.symm
 have l:a.toArray.size=ys.length:=by rw[List.size_toArray];exact e.length.symm
 have b:j<xs.length:=by rw[<-k];exact h
 have c:j<ys.length:=by rw[<-l];exact i
 obtain⟨m,n,o⟩:=d.get (ACd b)
 obtain⟨p,q,r⟩:=e.get (ACd c)
 have t:its.toArray[j]=m:=by
  have:=(ACe n).2
  simpa using this
 have u:a.toArray[j]=p:=by
  have:=(ACe q).2
  simpa using this
 rw[t,u]
 have v:xs.getD j .BV=xs[j]:=by rw[List.getD_eq_getElem?_getD,ACd b];rfl
 have w:ys.getD j .BV=ys[j]:=by rw[List.getD_eq_getElem?_getD,ACd c];rfl
 rw[v,w]
 exact VC o r (f _ (List.getElem_mem b)) (g _ (List.getElem_mem c))
inductive Zz (K:ACh) (c:Bool) (x:V) (y:V) (H:Hp) (Q:VK):Prop
 |mk (a:Addr) (b:Addr) (xs:List V) (ys:List V) (d:x=.ref a) (e:y=.ref b) (f:Ah K H a xs) (g:Ah K H b ys) (h:(∀z∈xs,Cd z=true)) (i:(∀z∈ys,Cd z=true)) (j:Q (.bl (if c then !LM xs ys else LM xs ys)) H):Zz K c x y H Q
def lL (K:ACh) (a:Bool):R2:=fun x y H Q=>Zz K a x y H Q
theorem bp (l:X.A.units<cLine):Dy X (compareOp .NotEq) (lL X.K true):=by
 intro pins s σ H x y v u Q I t w h
 obtain⟨a,b,c,d,rfl,rfl,z,B,C,D,q⟩:=h
 cases t
 cases w
 obtain⟨i,m,n,_⟩:=I.list z
 obtain⟨f,o,p,_⟩:=I.list B
 have k:i.toArray.size=c.length:=by rw[List.size_toArray];exact m.length.symm
 have r:f.toArray.size=d.length:=by rw[List.size_toArray];exact o.length.symm
 by_cases g:c.length=d.length
 ·refine SeqAt.RcNeAt.lists (e:=fun j=>OE (c.getD j .BV) (d.getD j .BV)) n.isList p.isList (by rw[k,r,g]) l (fun j E F=>Tw (pins:=pins) (σ:=σ) (H:=H) m o C D j E F) _ _ _ _ ?_
  refine⟨.bl (!LM c d),H,I,?_,q⟩
  show Value.bool _=Value.bool _
  congr 2
  unfold LM
  rw[k,g,Nat.min_self,beq_self_eq_true,Bool.and_true]
 ·refine SeqAt.RcNeAt.lists_lengths n.isList p.isList (by rw[k,r];simpa using g) l _ _ _ _ ⟨.bl (!LM c d),H,I,?_,q⟩
  show Value.bool _=Value.bool _
  congr 1
  unfold LM
  rw[beq_eq_false_iff_ne.mpr g,Bool.and_false]
  rfl
theorem OY {a:Expr} {f:TA} {p pos:Pos} (l:Gl X "range") (m:X.mg "range"=none) (n:PA X [a] f) (u:starEach [a] X.env=[(false,eval a X.env)]:=by rfl):
  PE X (.Call (.Name "range" p) [a] [] pos) (fun d H Q=>f d H fun g c=>∃j:Int,g=[.int j]/\∀r,c r=none->Q (.ref r) (upd c r (.Ze 0 j))):=by
 intro pins s d H Q I h
 refine Call_ (Ec I l m boot_range (PyProof.Rows.callWith_type1 (Bo (n pos pins s d H _ I h) fun z i v=>v.elim fun g c k w x=>?_) u rfl))
 obtain⟨j,e,q⟩:=x
 subst e
 cases w with
 |cons r y=>
  cases y
  obtain⟨t,rfl⟩:=r
  exact call_range_1 ⟨.ref i.heap.objs.size,upd c i.heap.objs.size (.Ze 0 j),k.laid (fun b o e=>Heap.get?_push_of_some _ e) (Nat.le_refl _) ⟨_,_,_,Heap.get?_push_size _ rfl⟩,rfl,q _ k.fresh⟩
inductive EN (xs:List V) (H:Hp) (Q:VK):Prop
 |mk (r:Addr) (n:Nat) (a:xs=[.ref r]) (b:H r=some (.Ze 0 (n:Int))) (c:n<=1000) (d:∀l,H l=none->Q (.ref l) (upd H l (.lst ((List.range n).map fun(i:Nat)=>V.int (i:Int))))):EN xs H Q
def JD:List V->Hp->VK->Prop:=fun a H Q=>EN a H Q
theorem GS (o:X.calm=true):BJ X (.type "list") JD:=by
 intro pins s K H L M Q I r h
 obtain⟨g,n,rfl,p,x,q⟩:=h
 obtain⟨u,rfl,y⟩:=vals1 r
 cases y
 obtain⟨t,u,v,e⟩:=(show Ay X.prog X.w H s.heap g (.Ze 0 (n:Int))from I.BO g _ p)
 have f:X.A.handled=none:=I.ok.hd o
 refine call_list_range (n:=n) f e (small_one (by lia) (by lia) (by lia) (by lia)) (by rw[rangeSize_one];split<;>lia) (by lia) fun B C b D E F j=>?_
 have G:((List.range n).map fun(i:Nat)=>V.int (i:Int)).length<=sizeLine:=by rw[List.length_map,List.length_range];exact Ad x
 refine⟨.ref s.heap.objs.size,_,I.laid (t':=C) E (Nat.le_refl _) (show Ay X.prog X.w _ B _ (.lst _)from⟨G,b.toList,D,?_,by rw[Array.toArray_toList];exact F⟩),rfl,q _ I.fresh⟩
 have gen:∀(n:Nat) (l:List Value),l.length=n->(∀(i:Nat) v,l[i]?=some v->∃t,v=Value.int (0+(i:Int)*1) t)->Vals ((List.range n).map fun(i:Nat)=>V.int (i:Int)) l:=by
  intro n
  induction n with
  |zero=>intro l c _;rw[List.eq_nil_of_length_eq_zero c];exact .nil
  |succ n J=>
   intro l c k
   have a:l≠[]:=fun z=>by rw[z]at c;cases c
   have m:l=l.dropLast++[l.getLast a]:=(List.dropLast_concat_getLast a).symm
   rw[List.range_succ,List.map_append,m]
   refine(J l.dropLast (by rw[List.length_dropLast,c];rfl) fun i v d=>?_).append (.cons ?_ .nil)
   ·refine k i v ?_
    rw[m,List.getElem?_append_left ((ACe d).1)]
    exact d
   ·have:l[n]?=some (l.getLast a):=by
     rw[List.getLast_eq_getElem]
     have:l.length-1=n:=by lia
     rw[ACd (by lia)]
     congr 1
     simp[this]
    obtain⟨t,e⟩:=k n _ this
    exact⟨t,by rw[e];congr 1;lia⟩
 exact gen n b.toList (by rw[Array.length_toList];exact j.1) fun i v d=>j.2 i v (by rw[<-Array.getElem?_toList];exact d)
inductive Ds (xs:List V) (H:Hp) (Q:VK):Prop
 |mk (a:_) (kvs:_) (b:xs=[.ref a]) (c:Rd H a (.dK kvs)) (d:∀p,H p=none->Q (.ref p) (upd H p (.dK kvs))):Ds xs H Q
def IG:List V->Hp->VK->Prop:=fun a H Q=>Ds a H Q
theorem DZ:BJ X (.type "dict") IG:=by
 intro pins s f H g i Q I r h
 obtain⟨a,kvs,rfl,b,q⟩:=h
 obtain⟨u,rfl,c⟩:=vals1 r
 cases c
 exact VJ I b fun p j d e=>⟨.ref p,_,e,rfl,q p d⟩
inductive Gs (xs:List V) (H:Hp) (Q:VK):Prop
 |mk (a:_) (kvs:_) (b:xs=[V.ref a]) (c:Rd H a (.dK kvs)) (d:Q (.int kvs.length) H):Gs xs H Q
def OZ:List V->Hp->VK->Prop:=fun a H Q=>Gs a H Q
theorem Ls:BJ X (.builtin "len") OZ:=by
 intro pins s e H f g Q I r h
 obtain⟨a,kvs,rfl,b,q⟩:=h
 obtain⟨u,rfl,c⟩:=vals1 r
 cases c
 exact fw I b fun t i d=>⟨.int kvs.length,H,d,⟨t,rfl⟩,q⟩
end
theorem Qs:∀a b:List Nat,ltCps a b=false->ltCps b a=false->a=b
 |[],[],_,_=>rfl
 |[],y::t,h,_=>by simp[ltCps]at h
 |x::r,[],_,h=>by simp[ltCps]at h
 |x::r,y::t,c,d=>by
  simp only[ltCps,Bool.or_eq_false_iff,decide_eq_false_iff_not,Bool.and_eq_false_iff]at c d
  have e:x=y:=by lia
  subst e
  simp at c d
  rw[Qs r t c d]
theorem Z_:∀a b c:List Nat,ltCps a b=true->ltCps b c=true->ltCps a c=true
 |[],[],c,h,_=>by simp[ltCps]at h
 |[],y::t,[],_,h=>by simp[ltCps]at h
 |[],y::t,z::u,_,_=>by simp[ltCps]
 |x::r,[],c,h,_=>by simp[ltCps]at h
 |x::r,y::t,[],_,h=>by simp[ltCps]at h
 |x::r,y::t,z::u,d,e=>by
  simp only[ltCps,Bool.or_eq_true,decide_eq_true_eq,Bool.and_eq_true,beq_iff_eq]at d e⊢
  rcases d with d|⟨d,f⟩<;>rcases e with e|⟨e,g⟩
  ·left;lia
  ·left;lia
  ·left;lia
  ·right;exact⟨by lia,Z_ r t u f g⟩
theorem gH (a b c:List Nat) (g:ltCps b a=false) (d:ltCps c b=false):ltCps c a=false:=by
 cases e:ltCps c a with
 |false=>rfl
 |true=>
  cases f:ltCps a b with
  |true=>rw[Z_ c a b e f]at d;cases d
  |false=>rw[Qs a b f g]at e;rw[e]at d;cases d
theorem Lu:∀(p:Str) (l:List Str),risingS p l=true->(∀x∈l,ltCps x.cps.toList p.cps.toList=false)/\l.Pairwise fun a b=>ltCps b.cps.toList a.cps.toList=false
 |_,[],_=>⟨fun x c=>(nomatch c),.nil⟩
 |p,y::r,h=>by
  simp only[risingS,Bool.and_eq_true,Bool.not_eq_true']at h
  obtain⟨d,e⟩:=Lu y r h.2
  refine⟨fun x c=>?_,.cons d e⟩
  rcases List.mem_cons.mp c with rfl|c
  ·exact h.1
  ·exact gH _ _ _ h.1 (d x c)
theorem Jw {l:List Str} (h:sortedS l=true):l.Pairwise fun a b=>ltCps b.cps.toList a.cps.toList=false:=by
 cases l with
 |nil=>exact .nil
 |cons x r=>obtain⟨c,d⟩:=Lu x r h;exact .cons c d
theorem YR {x y:Str} (h:x.cps.toList=y.cps.toList):x=y:=by
 cases x;cases y
 simp only at h
 congr 1
 exact Array.toList_inj.mp h
theorem Jx:∀{a b:List Str},(a.Pairwise fun a b=>ltCps b.cps.toList a.cps.toList=false)->(b.Pairwise fun a b=>ltCps b.cps.toList a.cps.toList=false)->a.Perm b->a=b
 |[],b,_,_,p=>(List.nil_perm.mp p).symm
 |x::r,[],_,_,p=>by have:=p.length_eq;simp at this
 |x::r,y::t,f,g,p=>by
  obtain⟨a1,a2⟩:=List.pairwise_cons.mp f
  obtain⟨h,i⟩:=List.pairwise_cons.mp g
  have e:x=y:=by
   have c:x∈y::t:=p.mem_iff.mp List.mem_cons_self
   have d:y∈x::r:=p.mem_iff.mpr List.mem_cons_self
   rcases List.mem_cons.mp c with c|c
   ·exact c
   ·rcases List.mem_cons.mp d with d|d
    ·exact d.symm
    ·exact YR (Qs _ _ (h x c) (a1 y d))
  subst e
  rw[Jx a2 i (List.Perm.cons_inv p)]
theorem CN {a b:List Str} (c:sortedS a=true) (d:sortedS b=true) (p:a.Perm b):a=b:=Jx (Jw c) (Jw d) p
namespace Dc
mutual
def deep:Dc->Nat
 |leaf _=>1
 |row _ xs=>1+AW xs
 |tab _ _ xs=>1+AW xs
def AW:List Dc->Nat
 |[]=>0
 |x::r=>max (deep x) (AW r)
end
mutual
def parts:Dc->List Dc
 |leaf v=>[leaf v]
 |row a xs=>row a xs::Qt xs
 |tab a ks xs=>tab a ks xs::Qt xs
def Qt:List Dc->List Dc
 |[]=>[]
 |x::r=>parts x++Qt r
end
structure lM (e d:Dc):Prop where
 at_:∀{H:Hp},d.At H->e.At H
 ok:d.ok->e.ok
 slim:d.slim->e.slim
 deep:e.deep<=d.deep
 size:e.size<=d.size
 addrs:∀a∈e.addrs,a∈d.addrs
mutual
def Dd:Dc->Dc->Prop
 |leaf v,leaf w=>v=w
 |row _ xs,row _ ys=>Cp xs ys
 |tab _ ks xs,tab _ ls ys=>ks=ls/\Cp xs ys
 |_,_=>False
def Cp:List Dc->List Dc->Prop
 |[],[]=>True
 |x::r,y::t=>Dd x y/\Cp r t
 |_,_=>False
end
theorem Lv:∀{xs ys:List Dc},Cp xs ys->∀(i:Nat) x,xs[i]?=some x->∃y,ys[i]?=some y/\Dd x y
 |[],_,_,i,x,e=>by simp at e
 |x::r,[],h,_,_,_=>by simp[Cp]at h
 |x::r,y::t,h,0,z,e=>by simp only[Cp]at h;simp at e;subst e;exact⟨y,rfl,h.1⟩
 |x::r,y::t,h,i+1,z,e=>by simp only[Cp]at h;simp at e;obtain⟨w,a,b⟩:=Lv h.2 i z e;exact⟨w,by simpa using a,b⟩
def kids:Dc->List Dc
 |leaf _=>[]
 |row _ xs=>xs
 |tab _ _ xs=>xs
theorem Ej {xs ys:List Dc} (p:xs.Perm ys):AI xs=AI ys:=by
 induction p with
 |nil=>rfl
 |cons x _ a=>simp only[AI,a]
 |swap x y l=>simp only[AI];lia
 |trans _ _ b c=>exact b.trans c
def YS:Dc->List V->Prop
 |leaf _,l=>l=[]
 |row _ xs,l=>l=(List.range xs.length).map fun(i:Nat)=>V.int (i:Int)
 |tab _ ks _,l=>∃ss:List Str,l=ss.map V.str/\ss.Perm ks/\sortedS ss=true
end Dc
structure Jy (H H':Hp) (d:Dc):Prop where
 same:AG H H'
 at_:d.At H'
 nd:d.addrs.Nodup
 own:∀a∈d.addrs,∀o u,H' a≠some (.CZ o u)
 new:∀a∈d.addrs,H a=none
theorem SE {c:TT} {g:TS} {D:Ends} {σ:St} {H:Hp} (W:Nat->St->Hp->Prop) (h:Nat) (j:W h σ H)
  (k:∀m σ H,W m σ H->c σ H fun b d=>if b=true then g {D with nx:=fun a f=>∃e,e<m/\W e a f,ct:=fun a f=>∃e,e<m/\W e a f,bk:=D.nx} σ d else D.nx σ d)
  (mono:∀σ H Q i,(∀b d,Q b d->i b d)->c σ H Q->c σ H i):Ut c g D σ H:=by
 refine⟨W,⟨h,j⟩,fun m σ H p=>?_⟩
 refine mono σ H _ _ (fun b d q=>?_) (k m σ H p)
 cases b with
 |true=>exact⟨_,fun a f z=>z,q⟩
 |false=>exact q
inductive YT (n:Nat) (vs:List V) (H:Hp) (Q:VK) (a:XK):Prop
 |mk (d:Dc) (c:vs=[d.val]) (e:d.At H) (f:d.deep<=n) (g:d.size<=900) (h:∀(d':Dc) (b:Hp),Jy H b d'->Dc.Dd d d'->Q d'.val b):YT n vs H Q a
inductive Vp (n:Nat) (vs:List V) (H:Hp) (Q:VK) (a:XK):Prop
 |mk (d:Dc) (e:Dc) (c:vs=[d.val,e.val]) (f:d.At H) (g:e.At H) (h:Dc.Dd d e) (i:d.slim) (j:d.deep<=n) (k:d.size<=900) (l:∀b,AG H b->Q (.bl true) b):Vp n vs H Q a
inductive Vq (n:Nat) (vs:List V) (H:Hp) (Q:VK) (a:XK):Prop
 |mk (d:Dc) (c:vs=[d.val]) (e:d.At H) (f:d.deep<=n) (g:d.size<=900) (h:∀(p:Addr) (b:Hp),AG H b->H p=none->b p=some (.lst (d.parts.map Dc.val))->Q (.ref p) b):Vq n vs H Q a
inductive Oa (vs:List V) (H:Hp) (Q:VK) (a:XK):Prop
 |mk (d:Dc) (c:vs=[d.val]) (e:d.At H) (f:d.slim) (g:d.size<=900) (h:∀(p:Addr) (l:List V) (b:Hp),AG H b->H p=none->b p=some (.lst l)->d.YS l->Q (.ref p) b):Oa vs H Q a
def JQ:Sp:=fun b H Q a=>Oa b H Q a
inductive Vr (vs:List V) (H:Hp) (Q:VK) (a:XK):Prop
 |mk (d:Dc) (c:vs=[d.val]) (e:d.At H) (f:d.slim) (g:d.size<=900) (h:∀(p:Addr) (es:List Dc) (b:Hp),AG H b->H p=none->b p=some (.lst (es.map Dc.val))->es.Perm d.kids->Q (.ref p) b):Vr vs H Q a
inductive Tx (vs:List V) (H:Hp) (Q:VK) (a:XK):Prop
 |mk (d:Dc) (c:vs=[d.val]) (e:d.At H) (f:d.slim) (g:d.size<=900) (h:∀b,AG H b->Q (.int (d.size:Int)) b):Tx vs H Q a
inductive Vs (vs:List V) (H:Hp) (Q:VK) (a:XK):Prop
 |mk (d:Dc) (c:vs=[d.val]) (e:d.At H) (f:d.ok) (g:d.slim) (h:d.size<=900) (i:∀b,AG H b->Q (.bl true) b):Vs vs H Q a
def Dc.kindS:Dc->Str
 | .leaf (.str _)=>"text"
 | .leaf _=>"number"
 | .row _ _=>"row"
 | .tab _ _ _=>"table"
inductive YU (vs:List V) (H:Hp) (Q:VK) (a:XK):Prop
 |mk (d:Dc) (b:vs=[d.val]) (c:d.At H) (e:Q (.str d.kindS) H):YU vs H Q a
inductive Vt (n:Nat) (vs:List V) (H:Hp) (Q:VK) (b:XK):Prop
 |mk (d:Dc) (t:Addr) (xs:List V) (c:vs=[d.val,.ref t]) (e:d.At H) (f:d.ok) (g:d.slim) (h:d.deep<=n) (i:H t=some (.tup xs)) (j:xs.length+d.size<=1000) (k:∀(p:Addr) (ps:List Addr) (a:Hp),AG H a->H p=none->a p=some (.lst (ps.map V.ref))->ps.length=d.size->(∀q∈ps,∃zs,a q=some (.tup (xs++zs))/\(d.sub zs).isSome=true)->Q (.ref p) a):Vt n vs H Q b
def back (a:Addr) (H c:Hp):Hp:=fun b=>if b=a then H a else c b
theorem Fv {a b:Addr} {H c:Hp} (h:b≠a):back a H c b=c b:=if_neg h
theorem JR {a:Addr} {H b:Hp}:back a H b a=H a:=if_pos rfl
theorem Ob {a:Addr} {H c:Hp} {u:HO} (e:H a=some u):back a H c=upd c a u:=by
 funext b
 unfold back upd
 split
 ·exact e
 ·rfl
theorem EO {a:Addr} {H c:Hp} (e:H a=c a):back a H c=c:=by
 funext b
 unfold back
 split
 ·rename_i h;rw[h,e]
 ·rfl
structure Qu (a:Addr) (o:Obj) (kvs:List (Key×V)) (H Hf:Hp):Prop where
 at_:Hf a=some (.CZ o (.dK kvs))
 rd:FR H Hf
 ne:∀b,b≠a->Hf b=H b
 lN:Rd H a (.dK kvs)
theorem Qu.free {a b:Addr} {o:Obj} {kvs:List (Key×V)} {H c:Hp} (F:Qu a o kvs H c) (h:c b=none):H b=none/\b≠a:=by
 have d:b≠a:=fun z=>by rw[z,F.at_]at h;cases h
 rw[F.ne b d]at h
 exact⟨h,d⟩
theorem Qu.back {a:Addr} {o:Obj} {kvs:List (Key×V)} {H d f:Hp} (F:Qu a o kvs H d) (s:AG d f):AG H (back a H f):=fun b u e=>by
 by_cases c:b=a
 ·subst c;rw[JR];exact e
 ·rw[Fv c]
  exact s b u (by rw[F.ne b c];exact e)
inductive SG (t:TE) (σ:St) (H:Hp) (Q:VK):Prop
 |mk (a:_) (kvs:_) (d:Rd H a (.dK kvs)) (e:∀o b,Qu a o kvs H b->t σ b fun v c=>c a=some (.CZ o (.dK kvs))/\Q v (back a H c)):SG t σ H Q
def bq (t:TE):TE:=fun a H Q=>SG t a H Q
inductive SI (t:TS) (D:Ends) (σ:St) (H:Hp):Prop
 |mk (a:_) (kvs:_) (d:Rd H a (.dK kvs)) (e:∀o c,Qu a o kvs H c->t ⟨fun σ b=>b a=some (.CZ o (.dK kvs))/\D.nx σ (back a H b),fun v b=>b a=some (.CZ o (.dK kvs))/\D.rt v (back a H b),fun σ b=>b a=some (.CZ o (.dK kvs))/\D.bk σ (back a H b),fun σ b=>b a=some (.CZ o (.dK kvs))/\D.ct σ (back a H b)⟩ σ c):SI t D σ H
def br (t:TS):TS:=fun D a H=>SI t D a H
theorem Qu.of {a:Addr} {o:Obj} {kvs:List (Key×V)} {H:Hp} (e:H a=some (.dK kvs)):Qu a o kvs H (upd H a (.CZ o (.dK kvs))):=⟨AE,FR.CZ e,fun b c=>AJ c,.inl e⟩
theorem Qu.same {a:Addr} {o:Obj} {kvs:List (Key×V)} {H:Hp} (e:H a=some (.CZ o (.dK kvs))):Qu a o kvs H H:=⟨e,fun _ _ r=>r,fun _ _=>rfl,.inr ⟨o,e⟩⟩
section
variable{X:Cx}
theorem SM {e:Expr} {t:TE} (h:PE X e t):PE X e (bq t):=by
 rintro pins s c H Q I ⟨a,kvs,r,d⟩
 rcases r with r|⟨o,r⟩
 ·refine bZ h pins s c H Q I ⟨a,kvs,r,fun o=>?_⟩
  have:=d o _ (Qu.of r)
  have e:(fun v b=>b a=some (.CZ o (.dK kvs))/\Q v (back a H b))=fun v=>Mv a o kvs (Q v):=by
   funext v b
   unfold Mv
   rw[Ob r]
  rw[e]at this
  exact this
 ·refine Bo (h pins s c H _ I (d o H (Qu.same r))) fun u l ⟨v,g,i,j,k,f⟩=>⟨v,g,i,j,?_⟩
  rw[EO (r.trans k.symm)]at f
  exact f
theorem SN {st:Stmt} {t:TS} (h:PS X st t):PS X st (br t):=by
 rintro pins s m H D I ⟨a,kvs,r,n⟩
 rcases r with r|⟨o,r⟩
 ·refine bc h pins s m H D I ⟨a,kvs,r,fun o=>?_⟩
  have:=n o _ (Qu.of r)
  have e:∀k:Hp->Prop,(fun j=>j a=some (.CZ o (.dK kvs))/\k (back a H j))=Mv a o kvs k:=fun k=>by
   funext j
   unfold Mv
   rw[Ob r]
  simp only[<-e]
  exact this
 ·refine Bo (h pins s m H _ I (n o H (Qu.same r))) fun f q i=>?_
  cases f with
  |next=>obtain⟨b,l,d,g,c⟩:=i;rw[EO (r.trans g.symm)]at c;exact⟨b,_,d,c⟩
  |brk=>obtain⟨b,l,d,g,c⟩:=i;rw[EO (r.trans g.symm)]at c;exact⟨b,_,d,c⟩
  |cont=>obtain⟨b,l,d,g,c⟩:=i;rw[EO (r.trans g.symm)]at c;exact⟨b,_,d,c⟩
  |ret u=>obtain⟨v,b,l,d,p,g,c⟩:=i;rw[EO (r.trans g.symm)]at c;exact⟨v,b,_,d,p,c⟩
end
theorem SO {J:It} {o:TE} {fs:List Nat} {σ:St} {H:Hp} {Q:VK} (n:Nat) (item:Nat->V) (P:Addr->Nat->Hp->Prop) (s:∀D,H D=none->P D 0 (upd H D (.lst [])))
  (h:∀D i H2,i<n->P D i H2->J.go i H2) (t:∀D i H2 v q,i<n->P D i H2->J.TN i H2 v q->v=item i/\q=H2) (j:∀D H2,P D n H2->J.stop n H2)
  (u:∀D i H2,H D=none->i<n->P D i H2->o (some (item i)::DJ σ fs) H2 fun y d=>∃ys,d D=some (.lst ys)/\ys.length<sizeLine/\P D (i+1) (upd d D (.lst (ys++[y]))))
  (w:∀D H2,H D=none->P D n H2->Q (.ref D) H2):GX J Qh o fs σ H Q:=by
 intro D k
 refine⟨fun i m H2=>m=n-i/\i<=n/\P D i H2,⟨n,rfl,Nat.zero_le _,s D k⟩,?_⟩
 rintro i m H2 ⟨rfl,x,p⟩
 by_cases f:i<n
 ·refine .inr ⟨h D i H2 f p,fun v r y=>?_⟩
  obtain⟨rfl,rfl⟩:=t D i H2 v r f p y
  unfold Qh
  dsimp only
  rw[if_pos rfl]
  have g:=u D i r k f p
  have e:(fun(y:V) (d:Hp)=>∃ys,d D=some (.lst ys)/\ys.length<sizeLine/\∃l,l<n-i/\l=n-(i+1)/\i+1<=n/\P D (i+1) (upd d D (.lst (ys++[y]))))=fun y d=>∃ys,d D=some (.lst ys)/\ys.length<sizeLine/\P D (i+1) (upd d D (.lst (ys++[y]))):=by
   funext y d
   refine propext ⟨fun⟨ys,a,b,l,_,_,_,c⟩=>⟨ys,a,b,c⟩,fun⟨ys,a,b,c⟩=>⟨ys,a,b,n-(i+1),by lia,rfl,f,c⟩⟩
  rw[<-e]at g
  exact g
 ·have e:i=n:=by lia
  subst e
  exact .inl ⟨j D H2 p,w D H2 k p⟩
structure Jz (H H':Hp) (es:List Dc):Prop where
 same:AG H H'
 at_:Dc.Hu H' es
 nd:(Dc.BC es).Nodup
 own:∀a∈Dc.BC es,∀o u,H' a≠some (.CZ o u)
 new:∀a∈Dc.BC es,H a=none
theorem Jz.nil {H b:Hp} (s:AG H b):Jz H b []:=⟨s,trivial,.nil,fun a h=>(nomatch h),fun a h=>(nomatch h)⟩
theorem Ek:∀(more kvs:List (Key×V)),((kvs++more).map (·.1)).Nodup->CT kvs more=kvs++more
 |[],kvs,_=>by simp[CT]
 |p::r,kvs,h=>by
  have a:CS kvs p.1=none:=by
   cases e:CS kvs p.1 with
   |none=>rfl
   |some v=>
    have:=Ru e
    rw[List.map_append,List.map_cons]at h
    obtain⟨_,_,b⟩:=List.nodup_append.mp h
    exact absurd rfl (b p.1 this p.1 List.mem_cons_self)
  show CT (putK kvs p.1 p.2) r=_
  rw[OJ p.2 a,Ek r (kvs++[(p.1,p.2)]) (by simpa using h)]
  simp
namespace Dc
theorem Vu {a:Str} {x:Dc}:∀(ks:List Str) (xs:List Dc) (i:Nat),ks.Nodup->ks[i]?=some a->xs[i]?=some x->(ks.zip xs).lookup a=some x
 |[],_,_,_,h,_=>by simp at h
 |y::r,[],_,_,_,h=>by simp at h
 |y::r,z::t,0,_,c,d=>by simp at c d;subst c d;simp
 |y::r,z::t,i+1,nd,c,d=>by
  obtain⟨e,f⟩:=List.nodup_cons.mp nd
  have b:r[i]?=some a:=by simpa using c
  have ne:a≠y:=fun z=>e (z▸ACg b)
  have:(a==y)=false:=by simpa using ne
  simp only[List.zip_cons_cons,List.lookup_cons,this]
  exact Vu r t i f b (by simpa using d)
end Dc
def bu:V->Bool
 | .int _=>true
 |_=>false
def gI:V->Bool
 | .str x=>CL x
 |_=>false
def Short (v:V):Prop:=∀x,v=.str x->x.length<=1000
inductive Vv (vs:List V) (H:Hp) (Q:VK) (a:XK):Prop
 |mk (v:_) (T:_) (b:vs=[v]) (c:Lo H v T) (d:Q (.bl (bu v)) H):Vv vs H Q a
inductive Qv (vs:List V) (H:Hp) (Q:VK) (a:XK):Prop
 |mk (x:Str) (c:vs=[.str x]) (d:x.length<=1000) (e:∀b,AG H b->Q (.bl ((sgn x).all Zu)) b):Qv vs H Q a
inductive YV (vs:List V) (H:Hp) (Q:VK) (a:XK):Prop
 |mk (v:_) (T:_) (c:vs=[v]) (d:Lo H v T) (e:Short v) (f:∀b,AG H b->Q (.bl (gI v)) b):YV vs H Q a
inductive Vw (vs:List V) (H:Hp) (Q:VK) (a:XK):Prop
 |mk (d:Dc) (c:vs=[d.val]) (e:d.At H) (f:d.ok) (g:d.size<=900) (h:∀b,AG H b->Q (.bl true) b):Vw vs H Q a
def FT (H b:Hp) (c:V):Dc->Prop
 | .leaf v=>c=v/\Dc.Lf v
 | .row _ xs=>∃a,c=.ref a/\b a=some (.lst (xs.map Dc.val))/\H a=none
 | .tab _ ks xs=>∃a,c=.ref a/\b a=some (.dK (Dc.kvs ks xs))/\H a=none
def rootOf (p:V×Dc):Option Addr:=match p.1 with
 | .ref a=>some a
 |_=>none
abbrev roots (ps:List (V×Dc)):List Addr:=ps.filterMap rootOf
theorem Bg {ps:List (V×Dc)} {c:Addr}:c∈roots ps↔∃p∈ps,p.1=.ref c:=by
 rw[List.mem_filterMap]
 constructor
 ·rintro⟨p,b,e⟩
  refine⟨p,b,?_⟩
  unfold rootOf at e
  split at e
  ·rename_i a h;cases e;exact h
  ·cases e
 ·rintro⟨p,b,e⟩
  exact⟨p,b,by unfold rootOf;rw[e]⟩
theorem BS (ps a:List (V×Dc)):roots (ps++a)=roots ps++roots a:=List.filterMap_append ..
def Bb:List (V×Dc)->List Dc->Prop
 |[],[]=>True
 |p::ps,e::es=>e.val=p.1/\Dc.Dd p.2 e/\Bb ps es
 |_,_=>False
theorem Bb.split:∀{ps a:List (V×Dc)} {es:List Dc},Bb (ps++a) es->∃b ec,es=b++ec/\Bb ps b/\Bb a ec
 |[],a,es,h=>⟨[],es,rfl,trivial,h⟩
 |p::ps,a,[],h=>by simp[Bb]at h
 |p::ps,a,e::es,h=>by
  simp only[List.cons_append,Bb]at h
  obtain⟨b,ec,rfl,c,d⟩:=Bb.split h.2.2
  exact⟨e::b,ec,rfl,by simp only[Bb];exact⟨h.1,h.2.1,c⟩,d⟩
theorem Bb.app:∀{ps a:List (V×Dc)} {b ec:List Dc},Bb ps b->Bb a ec->Bb (ps++a) (b++ec)
 |[],a,[],ec,_,h=>h
 |[],_,_::_,_,h,_=>by simp[Bb]at h
 |_::_,_,[],_,h,_=>by simp[Bb]at h
 |p::ps,a,e::b,ec,h,h'=>by
  simp only[Bb,List.cons_append]at h⊢
  exact⟨h.1,h.2.1,Bb.app h.2.2 h'⟩
theorem Bb.vals:∀{ps:List (V×Dc)} {es:List Dc},Bb ps es->es.map Dc.val=ps.map (·.1)
 |[],[],_=>rfl
 |[],_::_,h=>by simp[Bb]at h
 |_::_,[],h=>by simp[Bb]at h
 |p::ps,e::es,h=>by
  simp only[Bb]at h
  simp only[List.map_cons,h.1,Bb.vals h.2.2]
theorem Bb.Vx:∀{ps:List (V×Dc)} {es:List Dc},Bb ps es->Dc.Cp (ps.map (·.2)) es
 |[],[],_=>by simp[Dc.Cp]
 |[],_::_,h=>by simp[Bb]at h
 |_::_,[],h=>by simp[Bb]at h
 |p::ps,e::es,h=>by
  simp only[Bb]at h
  simp only[List.map_cons,Dc.Cp]
  exact⟨h.2.1,Bb.Vx h.2.2⟩
structure ER (H Hi:Hp) (L:Addr) (tv:V) (d:Dc) (ps:List (V×Dc)):Prop where
 same:AG H Hi
 nL:H L=none
 eL:Hi L=some (.lst (ps.map (·.1)))
 out:∀p∈ps,FT H Hi p.1 p.2
 src:∀p∈ps,p.2.At H/\p.2.slim
 nd:(roots ps).Nodup
 Tz:L∉roots ps
 bx:∀(es:List Dc) (H':Hp),Bb ps es->Jz H H' es->(∀c∈Dc.BC es,Hi c=none∨c∈roots ps)->(∀b o,b≠L->b∉roots ps->Hi b=some o->H' b=some o)->∃e:Dc,e.val=tv/\Dc.Dd d e/\Jy H H' e
theorem FT.root {H f:Hp} {p:V×Dc} {c:Addr} (o:FT H f p.1 p.2) (e:p.1=.ref c):f c≠none/\H c=none/\∀j u,f c≠some (.CZ j u):=by
 obtain⟨v,d⟩:=p
 simp only at e
 subst e
 cases d with
 |leaf v=>
  obtain⟨rfl,h⟩:=(show V.ref c=v/\Dc.Lf v from o)
  rcases h with⟨i,h⟩|⟨x,h,_⟩<;>cases h
 |row b k=>
  obtain⟨a,e,g,l⟩:=(show∃a,V.ref c=.ref a/\f a=some (.lst (k.map Dc.val))/\H a=none from o)
  cases e
  exact⟨by rw[g];simp,l,fun j u z=>by rw[g]at z;cases z⟩
 |tab b m k=>
  obtain⟨a,e,g,l⟩:=(show∃a,V.ref c=.ref a/\f a=some (.dK (Dc.kvs m k))/\H a=none from o)
  cases e
  exact⟨by rw[g];simp,l,fun j u z=>by rw[g]at z;cases z⟩
theorem FT.up {H h H2:Hp} {c:V} {d:Dc} (o:FT H h c d) (k:∀a,c=.ref a->∀u,h a=some u->H2 a=some u):FT H H2 c d:=by
 cases d with
 |leaf v=>exact o
 |row b i=>obtain⟨a,e,f,g⟩:=o;exact⟨a,e,k a e _ f,g⟩
 |tab b j i=>obtain⟨a,e,f,g⟩:=o;exact⟨a,e,k a e _ f,g⟩
theorem ER.step {H t H2:Hp} {L a:Addr} {S:V} {d node:Dc} {ps:List (V×Dc)} (C:ER H t L S d (ps++[(.ref a,node)])) (j:List (V×Dc))
  (keep:∀b o,b≠a->b≠L->t b=some o->H2 b=some o) (eL:H2 L=some (.lst ((ps++j).map (·.1)))) (out:∀p∈j,FT H H2 p.1 p.2) (src:∀p∈j,p.2.At H/\p.2.slim) (rn:(roots j).Nodup) (v:∀c∈roots j,t c=none)
  (n:H2 a≠none) (own:∀G u,H2 a≠some (.CZ G u))
  (build:∀(ec:List Dc) (k:Hp),Bb j ec->Dc.Hu k ec->k a=H2 a->∃e:Dc,e.val=.ref a/\Dc.Dd node e/\e.At k/\e.addrs.Perm (a::Dc.BC ec)):ER H H2 L S d (ps++j):=by
 have E:roots (ps++[(V.ref a,node)])=roots ps++[a]:=by rw[BS];rfl
 have nd:=C.nd
 rw[E]at nd
 obtain⟨I,_,J⟩:=List.nodup_append.mp nd
 have Tz:=C.Tz
 rw[E]at Tz
 have aL:a≠L:=fun z=>Tz (by rw[<-z];simp)
 have A:a∉roots ps:=fun z=>J a z a (by simp) rfl
 have K:=(C.out (.ref a,node) (by simp)).root rfl
 have T:∀c∈roots ps,c≠a/\c≠L/\t c≠none:=fun c f=>by
  obtain⟨p,g,e⟩:=Bg.mp f
  refine⟨fun z=>A (by rw[<-z];exact f),fun z=>Tz (by rw[<-z];simp[f]),?_⟩
  exact((C.out p (by simp[g])).root e).1
 refine⟨fun b o e=>?_,C.nL,eL,fun p g=>?_,fun p g=>?_,?_,?_,fun es k dn B z U=>?_⟩
 ·exact keep b o (Ab e K.2.1) (Ab e C.nL) (C.same b o e)
 ·rcases List.mem_append.mp g with g|g
  ·refine(C.out p (by simp[g])).up fun c e u h=>?_
   have:=T c (Bg.mpr ⟨p,g,e⟩)
   exact keep c u this.1 this.2.1 h
  ·exact out p g
 ·rcases List.mem_append.mp g with g|g
  ·exact C.src p (by simp[g])
  ·exact src p g
 ·rw[BS]
  refine List.nodup_append.mpr ⟨I,rn,fun x F y r e=>?_⟩
  subst e
  exact(T x F).2.2 (v x r)
 ·rw[BS]
  intro h
  rcases List.mem_append.mp h with h|h
  ·exact Tz (by simp[h])
  ·have:=v L h
   rw[C.eL]at this
   cases this
 ·obtain⟨l,ec,rfl,d1,d2⟩:=dn.split
  have W:a∉roots (ps++j):=by
   rw[BS]
   intro h
   rcases List.mem_append.mp h with h|h
   ·exact A h
   ·exact K.1 (v a h)
  have D:k a=H2 a:=by
   cases e:H2 a with
   |none=>exact absurd e n
   |some o=>exact U a o aL W e
  obtain⟨Eb,at2⟩:=(Dc.Ei _ _).mp B.at_
  obtain⟨e,ev,el,ea,X⟩:=build ec k d2 at2 D
  have i:a∉Dc.BC (l++ec):=fun h=>by
   rcases z a h with h|h
   ·exact n h
   ·exact W h
  have m:Dc.BC (l++[e])=Dc.BC l++e.addrs:=by rw[Dc.CW];simp[Dc.BC]
  have s:∀c,c∈Dc.BC (l++[e])->c=a∨c∈Dc.BC (l++ec):=fun c f=>by
   rw[m]at f
   rw[Dc.CW]
   rcases List.mem_append.mp f with f|f
   ·exact .inr (List.mem_append_left _ f)
   ·rcases List.mem_cons.mp (X.mem_iff.mp f)with f|f
    ·exact .inl f
    ·exact .inr (List.mem_append_right _ f)
  have M:Jz H k (l++[e]):=by
   refine⟨B.same,(Dc.Ei _ _).mpr ⟨Eb,by simp only[Dc.Hu];exact⟨ea,trivial⟩⟩,?_,fun c f=>?_,fun c f=>?_⟩
   ·have Y:=B.nd
    rw[Dc.CW]at Y i
    have:(Dc.BC l++(a::Dc.BC ec)).Nodup:=by
     obtain⟨x1,x2,x3⟩:=List.nodup_append.mp Y
     refine List.nodup_append.mpr ⟨x1,List.nodup_cons.mpr ⟨fun h=>i (List.mem_append_right _ h),x2⟩,fun x F y r N=>?_⟩
     subst N
     rcases List.mem_cons.mp r with r|r
     ·exact i (List.mem_append_left _ (by rw[<-r];exact F))
     ·exact x3 x F x r rfl
    rw[m]
    exact((List.Perm.append_left _ X).nodup_iff).mpr this
   ·rcases s c f with rfl|f
    ·intro G u h;rw[D]at h;exact own G u h
    ·exact B.own c f
   ·rcases s c f with rfl|f
    ·exact K.2.1
    ·exact B.new c f
  refine C.bx (l++[e]) k (d1.app (by simp only[Bb];exact⟨ev,el,trivial⟩)) M (fun c f=>?_) (fun b o Z O h=>?_)
  ·rw[E]
   rcases s c f with rfl|f
   ·exact .inr (by simp)
   ·rcases z c f with h|h
    ·left
     cases q:t c with
     |none=>rfl
     |some o=>
      have P:c≠a:=fun w=>n (by rw[<-w];exact h)
      have Q:c≠L:=fun w=>by rw[w,eL]at h;cases h
      rw[keep c o P Q q]at h
      cases h
    ·rw[BS]at h
     rcases List.mem_append.mp h with h|h
     ·exact .inr (by simp[h])
     ·exact .inl (v c h)
  ·rw[E]at O
   have R:b≠a:=fun w=>O (by simp[w])
   refine U b o Z ?_ (keep b o R Z h)
   rw[BS]
   intro w
   rcases List.mem_append.mp w with w|w
   ·exact O (by simp[w])
   ·rw[v b w]at h;cases h
theorem ER.start {H i:Hp} {L:Addr} {d:Dc} {b:V} (s:AG H i) (m:H L=none) (n:i L=some (.lst [b])) (o:FT H i b d) (h:d.At H) (sl:d.slim) (ne:b≠.ref L):ER H i L b d [(b,d)]:=by
 refine⟨s,m,n,fun p c=>by rw[List.mem_singleton.mp c];exact o,fun p c=>by rw[List.mem_singleton.mp c];exact⟨h,sl⟩,?_,?_,fun q u f g z v=>?_⟩
 ·cases b<;>first|exact List.nodup_nil|exact List.nodup_cons.mpr ⟨(fun h=>nomatch h),List.nodup_nil⟩
 ·intro t
  obtain⟨p,c,e⟩:=Bg.mp t
  rw[List.mem_singleton.mp c]at e
  exact ne e
 ·cases q with
  |nil=>simp[Bb]at f
  |cons e r=>
   cases r with
   |cons _ _=>simp[Bb]at f
   |nil=>
    simp only[Bb]at f
    have j:Dc.BC [e]=e.addrs:=by simp[Dc.BC]
    have l:=g.at_
    simp only[Dc.Hu]at l
    have fn:=g.nd
    rw[j]at fn
    exact⟨e,f.1,f.2.1,g.same,l.1,fn,fun a k=>g.own a (by rw[j];exact k),fun a k=>g.new a (by rw[j];exact k)⟩
theorem ER.done {H a:Hp} {L:Addr} {d:Dc} {f:V} (C:ER H a L f d []):∃e:Dc,e.val=f/\Dc.Dd d e/\Jy H a e:=
 C.bx [] a trivial (.nil C.same) (fun c g=>(nomatch g)) fun b o _ _ h=>h
theorem ER.leaf {H j H2:Hp} {L:Addr} {d:Dc} {n v:V} {ps:List (V×Dc)} (C:ER H j L n d (ps++[(v,.leaf v)])) (keep:∀b o,b≠L->j b=some o->H2 b=some o) (r:H2 L=some (.lst (ps.map (·.1)))):ER H H2 L n d ps:=by
 have s:Dc.Lf v:=(show v=v/\Dc.Lf v from C.out (v,.leaf v) (by simp)).2
 have k:roots (ps++[(v,Dc.leaf v)])=roots ps:=by
  rw[BS]
  rcases s with⟨i,rfl⟩|⟨x,rfl,_⟩<;>simp[roots,rootOf]
 have nd:=C.nd
 have Tz:=C.Tz
 rw[k]at nd Tz
 refine⟨fun b o e=>keep b o (Ab e C.nL) (C.same b o e),C.nL,r,fun p f=>?_,fun p f=>C.src p (by simp[f]),nd,Tz,fun l B D a z E=>?_⟩
 ·refine(C.out p (by simp[f])).up fun c e u h=>keep c u (fun w=>Tz ?_) h
  rw[<-w]
  exact Bg.mpr ⟨p,f,e⟩
 ·have g:Dc.BC (l++[.leaf v])=Dc.BC l:=by rw[Dc.CW];simp[Dc.BC,Dc.addrs]
  refine C.bx (l++[.leaf v]) B (D.app (by simp[Bb,Dc.val,Dc.Dd])) ⟨a.same,(Dc.Ei _ _).mpr ⟨a.at_,by simp only[Dc.Hu,Dc.At];exact⟨s,trivial⟩⟩,by rw[g];exact a.nd,by rw[g];exact a.own,by rw[g];exact a.new⟩ (fun c t=>?_) (fun b o y A h=>?_)
  ·rw[g]at t
   rw[k]
   rcases z c t with h|h
   ·left
    cases q:j c with
    |none=>rfl
    |some o=>
     have m:c≠L:=fun w=>by rw[w,r]at h;cases h
     rw[keep c o m q]at h
     cases h
   ·exact .inr h
  ·rw[k]at A
   exact E b o y A (keep b o y h)
def IH (H:Hp) (Q:VK):Dc->Prop
 | .leaf v=>Q v H
 | .row _ xs=>∀p,H p=none->Q (.ref p) (upd H p (.lst (xs.map Dc.val)))
 | .tab _ ks xs=>∀p,H p=none->Q (.ref p) (upd H p (.dK (Dc.kvs ks xs)))
inductive Oc (vs:List V) (H:Hp) (Q:VK) (a:XK):Prop
 |mk (d:Dc) (b:vs=[d.val]) (c:d.At H) (e:IH H Q d):Oc vs H Q a
def Mw:Sp:=fun b H Q a=>Oc b H Q a
inductive Lw (vs:List V) (H:Hp) (Q:VK) (a:XK):Prop
 |mk (d:Dc) (c:vs=[d.val]) (e:d.At H) (f:d.slim) (g:d.size<=900) (h:∀(d':Dc) (b:Hp),Jy H b d'->Dc.Dd d d'->Q d'.val b):Lw vs H Q a
def Gu:Sp:=fun b H Q a=>Lw b H Q a
theorem IH.of {j H:Hp} {Q:VK} {d:Dc} (s:AG j H) (h:d.At H) (k:∀f g,AG H g->FT j g f d->(∀a,f=.ref a->H a=none)->Q f g):IH H Q d:=by
 cases d with
 |leaf v=>
  refine k v H (AG.refl H) ⟨rfl,h⟩ fun a e=>?_
  rcases(show Dc.Lf v from h)with⟨i,rfl⟩|⟨x,rfl,_⟩<;>cases e
 |row b l=>exact fun p c=>k _ _ (AG.new c) ⟨p,rfl,AE,s.free c⟩ fun a e=>by cases e;exact c
 |tab b m l=>exact fun p c=>k _ _ (AG.new c) ⟨p,rfl,AE,s.free c⟩ fun a e=>by cases e;exact c
def D_ (ks:List Str) (vs:List V):List (Key×V):=(ks.zip vs).map fun p=>(Sum.inr p.1,p.2)
theorem Od (ks:List Str) (xs:List Dc):Dc.kvs ks xs=D_ ks (xs.map Dc.val):=rfl
theorem Vy {ks:List Str} {vs:List V} (h:ks.length=vs.length):(D_ ks vs).length=ks.length:=by
 unfold D_
 rw[List.length_map,List.length_zip]
 lia
theorem J_:∀{ks:List Str} {vs:List V} {j:Nat} {k:Str},ks.length=vs.length->ks.Nodup->ks[j]?=some k->CS (D_ ks vs) (Sum.inr k)=vs[j]?
 |[],_,_,_,_,_,h=>by simp at h
 |y::r,[],_,_,h,_,_=>by simp at h
 |y::r,v::vs,0,k,_,_,h=>by
  simp at h
  subst h
  exact DV rfl
 |y::r,v::vs,j+1,k,hl,nd,h=>by
  obtain⟨b,c⟩:=List.nodup_cons.mp nd
  have a:r[j]?=some k:=by simpa using h
  have ne:¬(Sum.inr y:Key)=Sum.inr k:=fun z=>b (by rw[Sum.inr.inj z];exact ACg a)
  show CS ((Sum.inr y,v)::D_ r vs) (Sum.inr k)=_
  rw[DW ne,J_ (by simpa using hl) c a]
  simp
theorem Vz {ks:List Str} {vs:List V} {j:Nat} {k:Str} (hl:ks.length=vs.length) (nd:ks.Nodup) (h:ks[j]?=some k) (c:V):putK (D_ ks vs) (Sum.inr k) c=D_ ks (vs.set j c):=by
 have e:j<vs.length:=by rw[<-hl];exact(ACe h).1
 have f:CS (D_ ks vs) (Sum.inr k)=some vs[j]:=by rw[J_ hl nd h,ACd e]
 unfold putK
 rw[if_pos (by rw[DB,f];rfl)]
 have gen:∀(ks:List Str) (vs:List V) (j:Nat),ks.length=vs.length->ks.Nodup->ks[j]?=some k->(D_ ks vs).map (fun a=>if a.1=Sum.inr k then(a.1,c)else a)=D_ ks (vs.set j c):=by
  intro ks
  induction ks with
  |nil=>intro vs j _ _ h;simp at h
  |cons y r g=>
   intro vs j hl nd h
   cases vs with
   |nil=>simp at hl
   |cons v vs=>
    obtain⟨b,i⟩:=List.nodup_cons.mp nd
    cases j with
    |zero=>
     simp at h
     subst h
     have l:(D_ r vs).map (fun a=>if a.1=Sum.inr y then(a.1,c)else a)=D_ r vs:=by
      have:∀p∈D_ r vs,(fun a:Key×V=>if a.1=Sum.inr y then(a.1,c)else a) p=id p:=fun p m=>by
       obtain⟨q,n,rfl⟩:=List.mem_map.mp m
       have o:q.1∈r:=(List.of_mem_zip n).1
       exact if_neg fun z=>b (by rw[<-Sum.inr.inj z];exact o)
      rw[List.map_congr_left this,List.map_id]
     show(if(Sum.inr y:Key)=Sum.inr y then(Sum.inr y,c)else(Sum.inr y,v))::(D_ r vs).map _=(Sum.inr y,c)::D_ r vs
     rw[if_pos rfl,l]
    |succ j=>
     have d:r[j]?=some k:=by simpa using h
     have ne:¬(Sum.inr y:Key)=Sum.inr k:=fun z=>b (by rw[Sum.inr.inj z];exact ACg d)
     show(if(Sum.inr y:Key)=Sum.inr k then(Sum.inr y,c)else(Sum.inr y,v))::(D_ r vs).map _=(Sum.inr y,v)::D_ r (vs.set j c)
     rw[if_neg ne,g vs j (by simpa using hl) i d]
 exact gen ks vs j hl nd h
theorem reorder {ks ss:List Str} {ec:List Dc} (p:ss.Perm ks) (nd:ss.Nodup) (l:ec.length=ss.length):∃es:List Dc,es.Perm ec/\es.length=ks.length/\∀(j t:Nat) k,ks[j]?=some k->ss[t]?=some k->es[j]?=ec[t]?:=by
 have b:∀k∈ks,∃x,(ss.zip ec).lookup k=some x:=fun k o=>let⟨x,h,_⟩:=Dc.LO l.symm (p.mem_iff.mpr o);⟨x,h⟩
 have gen:∀ks:List Str,(∀k∈ks,∃x,(ss.zip ec).lookup k=some x)->∃es:List Dc,es.map some=ks.map fun k=>(ss.zip ec).lookup k:=by
  intro ks
  induction ks with
  |nil=>exact fun _=>⟨[],rfl⟩
  |cons k r q=>
   intro h
   obtain⟨x,s⟩:=h k List.mem_cons_self
   obtain⟨es,c⟩:=q fun u d=>h u (List.mem_cons_of_mem _ d)
   exact⟨x::es,by simp[c,s]⟩
 obtain⟨es,e⟩:=gen ks b
 have a:ec.map some=ss.map fun k=>(ss.zip ec).lookup k:=by
  refine List.ext_getElem? fun i=>?_
  rw[List.getElem?_map,List.getElem?_map]
  cases f:ss[i]? with
  |none=>
   have:ec[i]?=none:=List.getElem?_eq_none_iff.mpr (by rw[l];exact List.getElem?_eq_none_iff.mp f)
   rw[this]
   rfl
  |some k=>
   have g:i<ec.length:=by rw[l];exact(ACe f).1
   rw[ACd g]
   show some (some ec[i])=some ((ss.zip ec).lookup k)
   rw[Dc.Vu ss ec i nd f (ACd g)]
 refine⟨es,?_,?_,fun j t k v c=>?_⟩
 ·have w:(es.map some).Perm (ec.map some):=by rw[e,a];exact(p.map _).symm
  have y:=w.filterMap id
  simpa using y
 ·have:=congrArg List.length e
  simpa using this
 ·have m:=congrArg (fun z=>z[j]?) e
  simp only[List.getElem?_map,v]at m
  have n:=congrArg (fun z=>z[t]?) a
  simp only[List.getElem?_map,c]at n
  have A:es[j]?.map some=ec[t]?.map some:=m.trans n.symm
  cases B:es[j]?<;>cases C:ec[t]?<;>simp_all
theorem Oe {xs ys:List Dc} (p:xs.Perm ys):(Dc.BC xs).Perm (Dc.BC ys):=by
 induction p with
 |nil=>exact .refl _
 |cons x _ a=>simp only[Dc.BC];exact a.append_left _
 |swap x y l=>
  simp only[Dc.BC,<-List.append_assoc]
  exact(List.perm_append_comm).append_right _
 |trans _ _ b c=>exact b.trans c
theorem V_ {H:Hp} {xs ys:List Dc} (p:xs.Perm ys) (h:Dc.Hu H ys):Dc.Hu H xs:=by
 have gen:∀l:List Dc,(∀x∈l,x.At H)->Dc.Hu H l:=by
  intro l
  induction l with
  |nil=>intro _;trivial
  |cons x r a=>intro h;simp only[Dc.Hu];exact⟨h x List.mem_cons_self,a fun y b=>h y (List.mem_cons_of_mem _ b)⟩
 exact gen xs fun x c=>Dc.Ft h x (p.mem_iff.mp c)
theorem Of:∀{xs ys:List Dc},xs.length=ys.length->(∀(i:Nat) x y,xs[i]?=some x->ys[i]?=some y->Dc.Dd x y)->Dc.Cp xs ys
 |[],[],_,_=>by simp[Dc.Cp]
 |[],_::_,h,_=>by simp at h
 |_::_,[],h,_=>by simp at h
 |x::r,y::t,h,k=>by
  simp only[Dc.Cp]
  exact⟨k 0 x y rfl rfl,Of (by simpa using h) fun i a b c d=>k (i+1) a b (by simpa using c) (by simpa using d)⟩
theorem T_ {H b:Hp} {d:Dc} {a:V} (c:d.At H) (o:FT H b a d) {L:Addr} (e:a=.ref L):b L≠none:=(FT.root (p:=(a,d)) o e).1
theorem Gv {cs:List V} {xs:List Dc} {c:V} {x:Dc} {i:Nat} (l:cs.length=i) (a:xs[i]?=some x):(cs++[c]).zip xs=cs.zip xs++[(c,x)]:=by
 induction cs generalizing xs i with
 |nil=>
  cases xs with
  |nil=>simp at a
  |cons y t=>
   simp at l
   subst l
   simp at a
   subst a
   simp
 |cons z r b=>
  cases xs with
  |nil=>simp at a
  |cons y t=>
   cases i with
   |zero=>simp at l
   |succ i=>
    simp only[List.cons_append,List.zip_cons_cons]
    rw[b (by simpa using l) (by simpa using a)]
namespace Dc
inductive Eqv:Dc->Dc->Prop where
 |leaf (v:V):Eqv (leaf v) (leaf v)
 |row {a b:Addr} {xs ys:List Dc} (l:xs.length=ys.length) (h:∀(i:Nat) x y,xs[i]?=some x->ys[i]?=some y->Eqv x y):Eqv (row a xs) (row b ys)
 |tab {a b:Addr} {ks ls:List Str} {xs ys:List Dc} (p:ks.Perm ls) (h:∀k x y,(ks.zip xs).lookup k=some x->(ls.zip ys).lookup k=some y->Eqv x y):Eqv (tab a ks xs) (tab b ls ys)
theorem gJ {ks:List Str}:∀{xs ys:List Dc},Cp xs ys->∀{k:Str} {x y:Dc},(ks.zip xs).lookup k=some x->(ks.zip ys).lookup k=some y->∃i:Nat,xs[i]?=some x/\ys[i]?=some y:=by
 induction ks with
 |nil=>intro xs ys _ k x y h;simp at h
 |cons z r d=>
  intro xs ys c k x y a b
  cases xs with
  |nil=>simp at a
  |cons j xs=>
   cases ys with
   |nil=>simp at b
   |cons l ys=>
    simp only[Cp]at c
    simp only[List.zip_cons_cons,List.lookup_cons]at a b
    by_cases e:k=z
    ·subst e
     simp at a b
     exact⟨0,by simp[a],by simp[b]⟩
    ·have:(k==z)=false:=by simpa using e
     rw[this]at a b
     obtain⟨i,f,g⟩:=d c.2 a b
     exact⟨i+1,by simpa using f,by simpa using g⟩
inductive Wf:Dc->Prop where
 |leaf (v:V):Wf (leaf v)
 |row {a:Addr} {xs:List Dc} (h:∀x∈xs,Wf x):Wf (row a xs)
 |tab {a:Addr} {ks:List Str} {xs:List Dc} (l:ks.length=xs.length) (n:ks.Nodup) (h:∀x∈xs,Wf x):Wf (tab a ks xs)
def ix (ks:List Str) (k:Str):Nat:=ks.findIdx (·==k)
def YW:Dc->List V->Dc->Dc
 |_,[],n=>n
 |row a xs,.int i::r,n=>row a (match xs[i.toNat]? with|some x=>xs.set i.toNat (YW x r n)|none=>xs)
 |tab a ks xs,.str k::r,n=>tab a ks (match xs[ix ks k]? with|some x=>xs.set (ix ks k) (YW x r n)|none=>xs)
 |d,_::_,_=>d
def room:Dc->V->Bool
 |row _ xs,.int i=>decide (0<=i)&&decide (i<=(xs.length:Int))
 |tab _ ks _,.str k=> !ks.contains k
 |_,_=>false
def lO:Dc->V->Dc->Dc
 |row a xs,.int i,v=>row a (xs.take i.toNat++v::xs.drop i.toNat)
 |tab a ks xs,.str k,v=>tab a (ks++[k]) (xs++[v])
 |d,_,_=>d
def lP:Dc->V->Dc
 |row a xs,.int i=>row a (xs.eraseIdx i.toNat)
 |tab a ks xs,.str k=>tab a (ks.eraseIdx (ix ks k)) (xs.eraseIdx (ix ks k))
 |d,_=>d
end Dc
namespace Dc
end Dc
namespace Dc
end Dc
inductive V' (vs:List V) (H:Hp) (Q:VK) (a:XK):Prop
 |mk (d:Dc) (z:V) (b:vs=[d.val,z]) (c:d.At H) (e:Dc.Ib z) (f:Q (.bl (d.sub [z]).isSome) H):V' vs H Q a
inductive WA (vs:List V) (H:Hp) (Q:VK) (a:XK):Prop
 |mk (d:Dc) (t:Addr) (xs:List V) (e:Dc) (b:vs=[d.val,.ref t]) (c:d.At H) (f:H t=some (.tup xs)) (g:(∀z∈xs,Dc.Ib z)) (h:d.sub xs=some e) (i:Q e.val H):WA vs H Q a
inductive T' (vs:List V) (H:Hp) (Q:VK) (a:XK):Prop
 |mk (d:Dc) (t:Addr) (us:List V) (b:V) (e:Dc) (f:vs=[d.val,.ref t]) (g:d.At H) (h:H t=some (.tup (us++[b]))) (i:(∀z∈us++[b],Dc.Ib z)) (j:d.sub us=some e) (k:∀c,AG H c->Q e.val c):T' vs H Q a
inductive YX (vs:List V) (H:Hp) (Q:VK) (a:XK):Prop
 |mk (d:Dc) (t:Addr) (us:List V) (b:V) (e:Dc) (x:Dc) (f:vs=[d.val,.ref t]) (g:d.At H) (h:H t=some (.tup (us++[b]))) (i:(∀z∈us++[b],Dc.Ib z)) (j:d.sub us=some e) (k:e.sub [b]=some x) (l:∀c,AG H c->Q e.val c):YX vs H Q a
inductive YY (vs:List V) (H:Hp) (Q:VK) (a:XK):Prop
 |mk (d:Dc) (z:V) (b:vs=[d.val,z]) (c:d.At H) (e:Dc.Ib z) (f:Q (.bl (d.room z)) H):YY vs H Q a
inductive b_ (vs:List V) (H:Hp) (Q:VK) (b:XK):Prop
 |mk (d:Dc) (v:Dc) (t:Addr) (us:List V) (a:V) (e:Dc) (h:vs=[d.val,.ref t,v.val]) (i:d.At H) (j:d.slim) (k:d.size<=800) (l:v.At H) (m:v.slim) (n:v.size<=900) (o:H t=some (.tup (us++[a]))) (p:(∀z∈us++[a],Dc.Ib z)) (q:d.sub us=some e) (f:e.room a=true) (g:∀(d':Dc) (c:Hp),Jy H c d'->Dc.Eqv (d.YW us (e.lO a v)) d'->Q d'.val c):b_ vs H Q b
inductive WB (vs:List V) (H:Hp) (Q:VK) (b:XK):Prop
 |mk (d:Dc) (t:Addr) (us:List V) (a:V) (e:Dc) (x:Dc) (g:vs=[d.val,.ref t]) (h:d.At H) (i:d.slim) (j:d.size<=900) (k:H t=some (.tup (us++[a]))) (l:(∀z∈us++[a],Dc.Ib z)) (m:d.sub us=some e) (n:e.sub [a]=some x) (o:∀(q:Addr) (d' c:Dc) (f:Hp),Jz H f [d',c]->f q=some (.tup [d'.val,c.val])->Dc.Eqv (d.YW us (e.lP a)) d'->Dc.Eqv x c->Q (.ref q) f):WB vs H Q b
inductive WC (vs:List V) (H:Hp) (Q:VK) (a:XK):Prop
 |mk (c:Int) (k:Nat) (d:vs=[.int c,.int (k:Int)]) (e:k<=1000) (f:∀v b,Rz v->AG H b->Q v b):WC vs H Q a
inductive UA (vs:List V) (H:Hp) (Q:VK) (a:XK):Prop
 |mk (c:Int) (d:vs=[.int c]) (e:∀(p:Addr) (ys:List Str) (b:Hp),AG H b->H p=none->b p=some (.lst (ys.map V.str))->ys.length=6->ys.Nodup->(∀y∈ys,CL y=true)->Q (.ref p) b):UA vs H Q a
section
variable{X:Cx} {CX:TX} {k:Nat} {f:Addr} {fd:FuncData} {ps:List Str} {ds:List Value} {Xx:List V} {sp:Sp} {E:XK} {x:Str} {p pos:Pos} {e:Expr} {es:List Expr} {t:TA} {tf:TE}
theorem J' (i:PE X (.Name x p) tf) (F:BX X.prog X.w X.K X.mg X.base CX k f fd ps sp) (j:Aj k X.A) (l:PySem.W.keepIn X.K (.ref f)=true) (m:Binds X.K fd ps ds) (n:Vals Xx ds) (o:Passes CX X E)
  (y:PA X (e::es) t) (z:starEach (e::es) X.env=(false,eval e X.env)::starEach es X.env:=by rfl) (b:(backTo pos (starEach es X.env)).any (·.1)=false:=by rfl):
  PE X (.Call (.Name x p) (e::es) [] pos) (fun a H Q=>tf a H fun v c=>v=.ref f/\Rp sp Xx E t a c Q):=by
 intro pins s a H Q I h
 refine wpAny_Call_Name_kw (Bo (i pins s a H _ I h) fun u B ⟨v,C,d,D,G,q⟩=>?_)
 subst G
 cases(show u=Value.ref f from D)
 refine PySem.W.callWith_K (h₀:=X.base) d.ok.mod.eW l (Bo (y pos pins B a C _ d q) fun L M J=>J.elim fun N c g r q=>⟨g.Gf,?_⟩) z b
 exact U' F j m n o g r q
end
inductive Og (c:Addr) (vs:List V) (H:Hp) (Q:VK) (a:XK):Prop
 |mk (d:Dc) (e:vs=[d.val,.ref c]) (f:d.At H) (g:d.slim) (h:d.size<=900) (i:∀(p:Addr) (ws:List Dc) (b:Hp),AG H b->H p=none->b p=some (.lst (ws.map Dc.val))->ws.length=d.size->Q (.ref p) b):Og c vs H Q a
inductive cA (K:ACh) (H:Hp):Nat->V->V->Prop
 |flat {n:Nat} {x y:V} (f:Cd x=true) (g:Cd y=true) (e:OE x y=true):cA K H n x y
 |same {n:Nat} {a:Addr}:cA K H n (.ref a) (.ref a)
 |lst {n:Nat} {a b:Addr} {xs ys:List V} (c:Ah K H a xs) (d:Ah K H b ys) (l:xs.length=ys.length) (h:∀(i:Nat) u v,xs[i]?=some u->ys[i]?=some v->cA K H n u v):cA K H (n+1) (.ref a) (.ref b)
 |tup {n:Nat} {a b:Addr} {xs ys:List V} (c:Bj K H a xs) (d:Bj K H b ys) (l:xs.length=ys.length) (h:∀(i:Nat) u v,xs[i]?=some u->ys[i]?=some v->cA K H n u v):cA K H (n+1) (.ref a) (.ref b)
inductive YZ (K:ACh) (H:Hp) (n:Nat):List V->List V->Prop
 |nil:YZ K H n [] []
 |cons {x y:V} {xs ys:List V} (h:cA K H n x y) (t:YZ K H n xs ys):YZ K H n (x::xs) (y::ys)
section
variable{X:Cx} {pins:List (Addr×Obj)} {σ:St} {H:Hp} {s:Shared}
theorem WD {its:List Value} {j:Nat} {u:Value} (g:its[j]?=some u) (h:j<its.toArray.size):its.toArray[j]=u:=by
 have:=(ACe g).2
 simpa using this
theorem Ya {xs:List V} {its:List Value} (r:Vals xs its) {j:Nat} (h:j<its.toArray.size):∃x,xs[j]?=some x/\RelV x its.toArray[j]:=by
 have e:its.toArray.size=xs.length:=by rw[List.size_toArray];exact r.length.symm
 have a:j<xs.length:=by rw[<-e];exact h
 obtain⟨u,g,b⟩:=r.get (ACd a)
 exact⟨_,ACd a,by rw[WD g h];exact b⟩
inductive lQ (K:ACh) (c:Bool) (x y:V) (H:Hp) (Q:VK):Prop
 |mk (a b:Addr) (xs ys:List V) (d:x=.ref a) (e:y=.ref b) (f:Ah K H a xs) (g:Ah K H b ys) (h:YZ K H 20 xs ys) (q:Q (.bl c) H):lQ K c x y H Q
end
def lR:Key->PyData
 | .inl i=>.int i
 | .inr x=>.str x
mutual
inductive JE (H:Hp):V->PyData->Prop
 |BV:JE H .BV .none
 |bl (b:Bool):JE H (.bl b) (.bool b)
 |int (i:Int):JE H (.int i) (.int i)
 |str (x:Str):JE H (.str x) (.str x)
 |lst {a:Addr} {xs:List V} {ds:List PyData} (h:Rd H a (.lst xs)) (r:El H xs ds):JE H (.ref a) (.list ds)
 |tup {a:Addr} {xs:List V} {ds:List PyData} (h:H a=some (.tup xs)) (r:El H xs ds):JE H (.ref a) (.tuple ds)
 |BM {a:Addr} {kvs:List (Key×V)} {ds:List PyData} (h:Rd H a (.dK kvs)) (r:El H (kvs.map (·.2)) ds):JE H (.ref a) (.dict ((kvs.map fun p=>lR p.1).zip ds))
 |Nk {v:V} {d:PyData} (r:∀c,AG H c->∀(P:Program) (w:World) (h:Heap),GQ P w c h->∀u,RelV v u->∃as,Reads h u d as/\∀b∈as,∃o,c b=some o):JE H v d
inductive El (H:Hp):List V->List PyData->Prop
 |nil:El H [] []
 |cons {x:V} {d:PyData} {xs:List V} {ds:List PyData} (h:JE H x d) (t:El H xs ds):El H (x::xs) (d::ds)
end
theorem Yb {a:Type} {kvs:List (a×V)} {vs:List (a×Value)} (r:KV kvs vs):Vals (kvs.map (·.2)) (vs.map (·.2)):=by
 unfold KV at r
 induction r with
 |nil=>exact .nil
 |cons h _ b=>exact .cons h.2 b
inductive cB (xs:List V) (H:Hp) (Q:VK):Prop
 |mk (a:Addr) (d:PyData) (e:xs=[.ref a]) (h:JE H (.ref a) d) (s:d.showable=true) (z:d.shown.length<=sizeLine) (dp:d.depth<=150) (q:Q (.str d.shown) H):cB xs H Q
theorem EC {x:V} {r:List V}:OD (x::r) 0=some x:=Av (j:=0) rfl
theorem Eb {x y:V} {r:List V}:OD (x::y::r) 1=some y:=Av (j:=1) rfl
theorem at2 {x y z:V} {r:List V}:OD (x::y::z::r) 2=some z:=Av (j:=2) rfl
theorem By {c:Bool} {A B:Prop} (a:c=true->A) (b:c=false->B):if c=true then A else B:=by
 cases c with
 |true=>exact Bq (a rfl)
 |false=>exact As (b rfl)
theorem FU {t u:TS} {D:Ends} {σ:St} {H:Hp} (R:St->Hp->Prop) (k:∀a b,R a b->u D a b) (h:(∀a b,R a b->u D a b)->t {D with nx:=u D} σ H):QO t u D σ H:=h k
def xO:V->Bool
 | .str _=>false
 |_=>true
def cC (zs xs:List V):List V:=
 match zs[xs.length-1]?,xs.getLast? with
 |some (.int i),some (.int j)=>if LM (zs.take (xs.length-1)) xs.dropLast=true/\(j<i∨(i=j/\xs.length<zs.length))then zs.set (xs.length-1) (.int (i+1))else zs
 |_,_=>zs
def lS (w:Str) (xs zs:List V):List V:=if w="copy"then zs else if w="move"then cC zs xs else xs
def steps (xs:List V):Prop:=∀z∈xs,Dc.Ib z
def cD:List Str:=["put","take","move","copy","change","ask","has","lacks","is"]
structure Rw (H:Hp) (r:V) (w:Str) (xs zs:List V) (p:Addr):Prop where
 ex:∃(a:Addr) (rest:List V),r=.ref a/\H a=some (.tup (.str w::.ref p::rest))/\(w="copy"∨w="move"->∃p2,rest=[.ref p2]/\H p2=some (.tup zs))
 hp:H p=some (.tup xs)
 sx:steps xs
 sz:steps zs
 lx:xs.length<=100
 lz:zs.length<=100
 wd:w∈cD
 nx:w="put"∨w="lacks"∨w="take"∨w="move"->xs≠[]
 nz:w="copy"∨w="move"->zs≠[]
def Qw (H:Hp) (v:V) (ys:List V):Prop:=∃(t h:Addr) (l:V),v=.ref t/\H t=some (.tup [.ref h,l])/\H h=some (.tup ys.dropLast)/\ys.getLast?=some l
def Yc:List Str:=["put","copy","move"]
abbrev WE:List V:=Yc.map V.str
theorem KA (w:Str):∀ws:List Str,Zn (.str w) (ws.map V.str)=decide (w∈ws)
 |[]=>by simp[Zn]
 |x::ws=>by
  have a:=KA w ws
  simp only[Zn,List.map_cons,List.any_cons]at a⊢
  rw[a]
  by_cases e:w=x
  ·subst e;simp[OE]
  ·have b:¬x=w:=fun z=>e z.symm
   simp[OE,e,b]
def KC:List Value->List Str->Bool
 |[],[]=>true
 | .str x _::us,y::ys=>x==y&&KC us ys
 |_,_=>false
def Yd (K:ACh) (a:Addr) (ws:List Str):Bool:=match K.lookup a with
 |some o=>o.cls==.type "tuple"&&(match o.data with
  | .seq b _=>decide (b.size<=1000)&&KC b.toList ws
  |_=>false)
 |none=>false
theorem Lx:∀{us:List Value} {ws:List Str},KC us ws=true->Vals (ws.map V.str) us
 |[],[],_=>.nil
 |[],_::_,h=>by simp[KC]at h
 |u::us,[],h=>by cases u<;>simp[KC]at h
 |u::us,y::ys,h=>by
  cases u with
  |str x t=>
   simp only[KC,Bool.and_eq_true,beq_iff_eq]at h
   obtain⟨rfl,h⟩:=h
   exact .cons ⟨t,rfl⟩ (Lx h)
  |_=>simp[KC]at h
theorem Bj.xP {K:ACh} {a:Addr} {ws:List Str} (h:Yd K a ws=true) (H:Hp):Bj K H a (ws.map V.str):=by
 unfold Yd at h
 split at h
 ·rename_i o lk
  simp only[Bool.and_eq_true,beq_iff_eq]at h
  obtain⟨c,h⟩:=h
  split at h
  ·rename_i b n d
   simp only[Bool.and_eq_true,decide_eq_true_eq]at h
   exact .inr ⟨o,b,n,lk,c,d,Ad h.1,Lx h.2⟩
  ·cases h
 ·cases h
def xQ (H:Hp) (v:V) (w:Str) (xs zs:List V):Prop:=if Zn (.str w) WE then Qw H v (lS w xs zs)else v=.BV
inductive Mx (H:Hp):List Addr->List (List V)->Prop
 |nil:Mx H [] []
 |cons {a:Addr} {xs:List V} {as:List Addr} {b:List (List V)} (h:H a=some (.tup xs)) (t:Mx H as b):Mx H (a::as) (xs::b)
structure Nd (H H':Hp) (l:Addr) (ps:List Addr) (xR:List (List V)):Prop where
 same:AG H H'
 nl:H l=none
 hl:H' l=some (.lst (ps.map V.ref))
 tu:Mx H' ps xR
def xS (H:Hp) (v:V) (w:Str) (xs zs:List V):Prop:=if w="lacks"then Qw H v xs else if Zn (.str w) WE=true/\xO ((lS w xs zs).getLastD .BV)=false then Qw H v (lS w xs zs)else v=.BV
def NoT (H:Hp) (v:V):Prop:=v=.BV∨∃(a:Addr) (b:List V),v=.ref a/\H a=some (.tup b)
def low (xs:List V):Prop:=∀z∈xs,∀i:Int,z=.int i->i.natAbs<1000
def jW (H:Hp) (vs:List V):Prop:=∀v∈vs,∃(p:Addr) (a:List V),v=.ref p/\H p=some (.tup a)/\steps a/\a≠[]/\a.length<=20/\low a
def tX (H:Hp) (v:V):Prop:=∃d:PyData,JE H v d/\d.showable=true/\d.shown.length<=sizeLine/\d.depth<=100
def xT (H:Hp) (v:V) (b n:Nat):Prop:=∃D:PyData,JE H v D/\D.showable=true/\D.leavesShort 2000=true/\D.bulk<=b/\D.depth<=n
def xU (H:Hp) (xs:List V) (b n:Nat):Prop:=∃a:List PyData,El H xs a/\PyData.showableAll a=true/\PyData.leavesShortAll 2000 a=true/\PyData.bulkAll a<=b/\PyData.depthAll a<=n
section
variable{prog:Program} {w:World} {A:Around} {E:Value->Shared->Prop} {s:Shared}
abbrev UB (h:Heap) (z TI TO T:Addr) (f:Bool):Prop:=
 h.get? z=some {cls:=.type "zip",dict:=none,data:=.fields #[rawInt T,.bool f,.bool false,.ref TI,.ref TO],slots:= #[]}
theorem Oh {z TI TO T:Addr} {f:Bool} {e:Obj} {Q:Bool->Shared->Prop} (hz:UB s.heap z TI TO T f) (g:s.heap.get? T=some e)
  (d:∀h',UB h' z TI TO T true->Heap.SameBut z s.heap h'->Q false {s with heap:=h'}):wpAny (model prog w) A (Builtin.SmallTypes.ownedTupleIsFree (.ref z)) Q E s:=by
 unfold Builtin.SmallTypes.ownedTupleIsFree
 refine wpAny_bind (wpAny_field hz rfl (x:=rawInt T) rfl ?_)
 show wpAny _ _ (loadIfAlive ((T:Int).toNat)>>=_) _ _ _
 rw[Int.toNat_natCast]
 refine wpAny_bind (PySem.W.kdx_alive g ?_)
 show wpAny _ _ (field (.ref z) 1>>=_) _ _ _
 refine wpAny_bind (wpAny_field hz rfl (x:=.bool f) rfl ?_)
 cases f with
 |true=>
  show wpAny _ _ (pure false) _ _ _
  exact wpAny_pure (d s.heap hz (Heap.SameBut.refl _ _))
 |false=>
  show wpAny _ _ (setField (.ref z) 1 (.bool true)>>=_) _ _ _
  exact wpAny_bind (wpAny_setField_rec hz (by simp) fun c a b=>wpAny_pure (d c a b))
theorem LP {z TI TO h i l1 l2 T:Addr} {f:Bool} {u:Obj} {k1 k2:Nat} {xs ys:Array Value} {x y:Value} {Q:Value->Shared->Prop} (D:ZipApart z TI TO h i l1 l2)
  (hz:UB s.heap z TI TO T f) (B:s.heap.get? T=some u) (n:IsPair s.heap TI (.ref h) (.ref i))
  (C:s.heap.IsListIter h l1 k1) (F:s.heap.IsListIter i l2 k2) (p:s.heap.IsList l1 xs) (q:s.heap.IsList l2 ys) (G:xs[k1]?=some x) (H:ys[k2]?=some y)
  (I:∀h',UB h' z TI TO T true->h'.IsListIter h l1 (k1+1)->h'.IsListIter i l2 (k2+1)->IsPair h' s.heap.objs.size x y->h'.objs.size=s.heap.objs.size+1->
   (∀c o,c≠z->c≠h->c≠i->s.heap.get? c=some o->h'.get? c=some o)->Q (.ref s.heap.objs.size) {s with heap:=h'}):
  wpAny (model prog w) A (Builtin.«zip.__next__» ⟨[.ref z],[]⟩) (fun fin J=>∃v,fin=.done (.ret v)/\Q v J) E s:=by
 show wpAny _ _ (field (.ref z) 2>>=_) _ _ _
 refine wpAny_bind (wpAny_field hz rfl (x:=.bool false) rfl ?_)
 show wpAny _ _ (field (.ref z) 3>>=_) _ _ _
 refine wpAny_bind (wpAny_field hz rfl (x:=.ref TI) rfl ?_)
 refine wpAny_bind (wpAny_seqItems n rfl ?_)
 show wpAny _ _ (Builtin.SmallTypes.ownedTupleIsFree (.ref z)>>=_) _ _ _
 refine wpAny_bind (Oh hz B fun r j a=>?_)
 simp only[Bool.false_eq_true,if_false]
 refine wpAny_bind ?_
 rw[<-Array.forIn_toList]
 show wpAny _ _ (forIn [Value.ref h,Value.ref i] _ _) _ _ _
 rw[List.forIn_cons]
 refine wpAny_bind (wpAny_bind (wpAny_holding ?_))
 show wpAny _ _ (Builtin.SmallTypes.nextOf (.ref h)>>=_) _ _ _
 refine wpAny_bind (wpAny_nextOf_list_item (C.extBut a.extBut D.i1z) (p.extBut a.extBut D.l1z) G fun t k b=>wpAny_pure ?_)
 refine wpAny_pure ?_
 dsimp only
 rw[List.forIn_cons]
 refine wpAny_bind (wpAny_bind (wpAny_holding ?_))
 show wpAny _ _ (Builtin.SmallTypes.nextOf (.ref i)>>=_) _ _ _
 refine wpAny_bind (wpAny_nextOf_list_item ((F.extBut a.extBut D.i2z).extBut b.extBut D.i12.symm) ((q.extBut a.extBut D.l2z).extBut b.extBut D.l2i1) H fun g l d=>wpAny_pure ?_)
 refine wpAny_pure ?_
 dsimp only
 rw[List.forIn_nil]
 refine wpAny_pure ?_
 show wpAny _ _ (newTuple [x,y]>>=_) _ _ _
 refine wpAny_bind (wpAny_newTuple ?_)
 have m:g.objs.size=s.heap.objs.size:=by rw[d.1,b.1,a.1]
 refine wpAny_pure ⟨_,rfl,?_⟩
 show Q (.ref g.objs.size) _
 rw[m]
 have up:∀c o,c≠z->c≠h->c≠i->s.heap.get? c=some o->(g.push {cls:=.type "tuple",data:=.seq #[x,y]}).get? c=some o:=fun c o c1 c2 c3 e=>
  Heap.get?_push_of_some _ (d.extBut _ _ c3 (b.extBut _ _ c2 (a.extBut _ _ c1 e)))
 refine I _ (Heap.get?_push_of_some _ (d.extBut _ _ D.i2z.symm (b.extBut _ _ D.i1z.symm j))) ((k.extBut d.extBut D.i12).at fun o e=>Heap.get?_push_of_some _ e) (l.at fun o e=>Heap.get?_push_of_some _ e) ?_ (by rw[Heap.size_push,m]) up
 have this:(g.push {cls:=.type "tuple",data:=.seq #[x,y]}).get? g.objs.size=some {cls:=.type "tuple",data:=.seq #[x,y]}:=Heap.get?_push_size _ rfl
 rw[m]at this
 exact this
theorem My {z TI TO d i l1 l2 T:Addr} {f:Bool} {n:Obj} {k1:Nat} {xs:Array Value} {Q:Fin->Shared->Prop} (p:A.handled=none) (D:ZipApart z TI TO d i l1 l2)
  (hz:UB s.heap z TI TO T f) (q:s.heap.get? T=some n) (j:IsPair s.heap TI (.ref d) (.ref i))
  (r:s.heap.IsListIter d l1 k1) (k:s.heap.IsList l1 xs) (g:xs[k1]?=none)
  (t:∀h' e,(∀c o,c≠z->c≠d->s.heap.get? c=some o->h'.get? c=some o)->(∃o,h'.get? e=some o/\o.cls=.type "StopIteration")->E (.ref e) {s with heap:=h'}):
  wpAny (model prog w) A (Builtin.«zip.__next__» ⟨[.ref z],[]⟩) Q E s:=by
 show wpAny _ _ (field (.ref z) 2>>=_) _ _ _
 refine wpAny_bind (wpAny_field hz rfl (x:=.bool false) rfl ?_)
 show wpAny _ _ (field (.ref z) 3>>=_) _ _ _
 refine wpAny_bind (wpAny_field hz rfl (x:=.ref TI) rfl ?_)
 refine wpAny_bind (wpAny_seqItems j rfl ?_)
 show wpAny _ _ (Builtin.SmallTypes.ownedTupleIsFree (.ref z)>>=_) _ _ _
 refine wpAny_bind (Oh hz q fun m l a=>?_)
 simp only[Bool.false_eq_true,if_false]
 refine wpAny_bind ?_
 rw[<-Array.forIn_toList]
 show wpAny _ _ (forIn [Value.ref d,Value.ref i] _ _) _ _ _
 rw[List.forIn_cons]
 refine wpAny_bind (wpAny_bind (wpAny_holding ?_))
 show wpAny _ _ (Builtin.SmallTypes.nextOf (.ref d)>>=_) _ _ _
 refine wpAny_bind (wpAny_nextOf_list_end p (r.extBut a.extBut D.i1z) (k.extBut a.extBut D.l1z) g fun h e b u=>t h e (fun c o c1 c2 x=>b _ _ c2 (a.extBut _ _ c1 x)) u)
structure cE (h:Heap) (z TI TO i1 i2 l1 l2 S:Addr) (i:Nat) (xs ys:Array Value):Prop where
 st:(i=0/\IsZip h z TI TO .none/\∃a b,IsPair h TO a b)∨∃T f oT,UB h z TI TO T f/\h.get? T=some oT/\T≠z/\T≠i1/\T≠i2/\T≠S
 ti:IsPair h TI (.ref i1) (.ref i2)
 h1:h.IsListIter i1 l1 i
 h2:h.IsListIter i2 l2 i
 L1:h.IsList l1 xs
 L2:h.IsList l2 ys
theorem cE.keep {h h':Heap} {z TI TO d g l1 l2 S:Addr} {i:Nat} {xs ys:Array Value} (x:cE h z TI TO d g l1 l2 S i xs ys) (c:∀b o,b≠S->h.get? b=some o->h'.get? b=some o) (n:z≠S/\TI≠S/\TO≠S/\d≠S/\g≠S/\l1≠S/\l2≠S):cE h' z TI TO d g l1 l2 S i xs ys:=by
 obtain⟨st,l,m,p,q,L2⟩:=x
 refine⟨?_,c _ _ n.2.1 l,m.at fun o e=>c _ o n.2.2.2.1 e,p.at fun o e=>c _ o n.2.2.2.2.1 e,q.at fun o e=>c _ o n.2.2.2.2.2.1 e,L2.at fun o e=>c _ o n.2.2.2.2.2.2 e⟩
 rcases st with⟨e,j,a,b,r⟩|⟨T,f,t,j,u,v,y,B,k⟩
 ·exact .inl ⟨e,c _ _ n.1 j,a,b,c _ _ n.2.2.1 r⟩
 ·exact .inr ⟨T,f,t,c _ _ n.1 j,c _ _ k u,v,y,B,k⟩
theorem WG {z TI TO g h l1 l2 S:Addr} {i:Nat} {xs ys:Array Value} {x y:Value} {Q:Option Value->Shared->Prop} (D:ZipApart z TI TO g h l1 l2) (st:cE s.heap z TI TO g h l1 l2 S i xs ys) (G:S<s.heap.objs.size) (q:xs[i]?=some x) (r:ys[i]?=some y)
  (t:∀h',cE h' z TI TO g h l1 l2 S (i+1) xs ys->IsPair h' s.heap.objs.size x y->h'.objs.size=s.heap.objs.size+1->(∀c o,c≠z->c≠TO->c≠g->c≠h->s.heap.get? c=some o->h'.get? c=some o)->Q (some (.ref s.heap.objs.size)) {s with heap:=h'}):
  wpAny (model prog w) A (pyNext (.ref z)) Q E s:=by
 obtain⟨st,l,n,p,m,L2⟩:=st
 have lt:∀{c o},s.heap.get? c=some o->s.heap.objs.size≠c:=fun e=>Nat.ne_of_gt (Heap.lt_size e)
 have H:s.heap.objs.size≠g:=by obtain⟨_,e,_⟩:=n;exact lt e
 have I:s.heap.objs.size≠h:=by obtain⟨_,e,_⟩:=p;exact lt e
 rcases st with⟨rfl,j,a,b,J⟩|⟨T,f,K,j,u,v,B,C,L⟩
 ·refine wpAny_pyNext_zip_item D j l J n p m L2 q r fun h' a1 a2 a3 a4 a5 a6 d=>?_
  exact t h' ⟨.inr ⟨s.heap.objs.size,false,_,a1,a5,lt j,H,I,Nat.ne_of_gt G⟩,d _ _ D.TIz D.TITO D.TIi1 D.TIi2 l,a3,a4,m.at fun o e=>d _ o D.l1z D.l1TO D.l1i1 D.l1i2 e,L2.at fun o e=>d _ o D.l2z D.l2TO D.l2i1 D.l2i2 e⟩ a5 a6 d
 ·have k:s.TypeIs (.ref z) "zip":=⟨_,j,rfl⟩
  unfold pyNext
  exact wpAny_bind (wpAny_attempt (wpAny_callSpecial?_slot (name:=Str.ofString "__next__") k F.slot_zip_next
   (wpAny_call_entry F.slot_zip_next k F.entry_zip_next
    (LP D j u l n p m L2 q r fun h' a1 a3 a4 a5 a6 d=>wpAny_pure (t h' ⟨.inr ⟨T,true,K,a1,d _ _ v B C u,v,B,C,L⟩,d _ _ D.TIz D.TIi1 D.TIi2 l,a3,a4,m.at fun o e=>d _ o D.l1z D.l1i1 D.l1i2 e,L2.at fun o e=>d _ o D.l2z D.l2i1 D.l2i2 e⟩ a5 a6 fun c o c1 _ c3 c4 e=>d c o c1 c3 c4 e)) (F.args_zip_next_1 _))))
theorem WH {z TI TO h j l1 l2 S:Addr} {i:Nat} {xs ys:Array Value} {Q:Option Value->Shared->Prop} (k:A.handled=none) (D:ZipApart z TI TO h j l1 l2) (st:cE s.heap z TI TO h j l1 l2 S i xs ys) (l:xs[i]?=none)
  (m:∀h',(∀c o,c≠z->c≠TO->c≠h->c≠j->s.heap.get? c=some o->h'.get? c=some o)->Q none {s with heap:=h'}):wpAny (model prog w) A (pyNext (.ref z)) Q E s:=by
 obtain⟨st,n,p,r,q,L2⟩:=st
 rcases st with⟨rfl,g,a,b,t⟩|⟨T,f,C,g,u,G,H,I,J⟩
 ·exact wpAny_pyNext_zip_end k D g n t p r q L2 (.inl l) m
 ·have d:s.TypeIs (.ref z) "zip":=⟨_,g,rfl⟩
  unfold pyNext
  refine wpAny_bind (wpAny_attempt (wpAny_callSpecial?_slot (name:=Str.ofString "__next__") d F.slot_zip_next
   (wpAny_call_entry F.slot_zip_next d F.entry_zip_next (My k D g u n p q l fun h' e v x=>?_) (F.args_zip_next_1 _))))
  obtain⟨o,y,B⟩:=x
  refine wpAny_bind (wpAny_isInstance (T:="StopIteration") (b:=true) ⟨o,y,B⟩ isSubtype_stop ?_)
  exact wpAny_pure (m _ fun c o c1 _ c3 _ e=>v c o c1 c3 e)
structure ZG (xs ys:Array Value) (lo:Addr) (h:Heap) (as:List Addr):Prop where
 rise:as.Pairwise (·<·)
 above:∀a∈as,lo<a
 there:∀a∈as,a<h.objs.size
 pairs:∀(j:Nat) (a:Addr),as[j]?=some a->∃x y,xs[j]?=some x/\ys[j]?=some y/\IsPair h a x y
end
section
variable{prog:Program} {w:World} {A:Around} {s:Shared} {R:Result->Shared->Prop} {xs ys:Array Value}
end
section
variable{prog:Program} {w:World} {A:Around} {E:Value->Shared->Prop} {s:Shared} {xs ys:Array Value}
end
section
variable{X:Cx} {pins:List (Addr×Obj)} {σ:St} {H:Hp} {s:Shared}
inductive xV (x y:V) (H:Hp) (Q:VK):Prop
 |mk (a b:Addr) (xs ys:List V) (d:x=.ref a) (e:y=.ref b) (f:H a=some (.lst xs)) (g:H b=some (.lst ys)) (l:xs.length=ys.length)
   (q:∀(p:Addr) (ts:List Addr) (c:Hp),AG H c->H p=none->c p=some (.lst (ts.map V.ref))->ts.length=xs.length->(∀(j:Nat) t x y,ts[j]?=some t->xs[j]?=some x->ys[j]?=some y->c t=some (.tup [x,y]))->Q (.ref p) c):xV x y H Q
end
theorem DC (b:Int) (u:Tok) (l:Addr) (c:Value) (es:Array DictEntry) (n:Nat) (e:Option Addr) (sl:Array (Option Value)):
  Meets (Builtin.«int.__eq__» ⟨[.int b u,.ref l],[]⟩) (fun _ R s=>s.heap.get? l=some {cls:=c,dict:=e,data:=.dict es n,slots:=sl}/\R (.ok (.ret .notImplemented)) s):=
 .of_wp fun prog w A R s h=>by obtain⟨f,g,d,i,os⟩:=s;obtain⟨a,h⟩:=h;wp_walk using wpAny_loadPart' a,wpAny_load a;exact⟨_,rfl,h⟩
theorem DD (b:Str) (u:Tok) (l:Addr) (c:Value) (es:Array DictEntry) (n:Nat) (e:Option Addr) (sl:Array (Option Value)):
  Meets (Builtin.«str.__eq__» ⟨[.str b u,.ref l],[]⟩) (fun _ R s=>s.heap.get? l=some {cls:=c,dict:=e,data:=.dict es n,slots:=sl}/\R (.ok (.ret .notImplemented)) s):=
 .of_wp fun prog w A R s h=>by obtain⟨f,g,d,i,os⟩:=s;obtain⟨a,h⟩:=h;wp_walk using wpAny_loadPart' a,wpAny_load a;exact⟨_,rfl,h⟩
section
variable{prog:Program} {w:World} {A:Around} {E:Value->Shared->Prop} {s:Shared}
theorem Bm {d:Addr} {v:Value} {T:String} {Q:Value->Shared->Prop} (c:s.TypeIs (.ref d) "dict") (e:s.TypeIs v T) (a:isSubtype (.type T) (.type "dict")=pure false) (h:Q .notImplemented s):
  wpAny (model prog w) A (call (.builtin "dict.__eq__") [.ref d,v]) Q E s:=by
 refine wpAny_call_entry PySem.F.slot_dict_eq c PySem.F.entry_dict_eq ?_ (PySem.F.args_dict_eq_2 _ _)
 show wpAny _ _ (Builtin.Dict.dictSlotArgs "__eq__" ⟨[.ref d,v],[]⟩>>=_) _ _ s
 refine wpAny_bind ?_
 unfold Builtin.Dict.dictSlotArgs
 refine wpAny_bind (wpAny_notOrdered_dict c ?_)
 show wpAny _ _ (pure (Value.ref d,v)) _ _ s
 refine wpAny_pure ?_
 refine wpAny_bind (wpAny_isInstance (T:=T) (b:=false) e a ?_)
 simp only[Bool.not_false,if_true]
 exact wpAny_bind (wpAny_rule (wpAny_pure ⟨_,rfl,h⟩))
theorem Cu (l b:Addr) (items:Array Value) (es:Array DictEntry) (n e:Nat) (f a:Option Addr) (sl c:Array (Option Value)):
  Meets (Builtin.«list.__eq__» ⟨[.ref l,.ref b],[]⟩) (fun _ R s=>s.heap.get? l=some {cls:=.type "list",dict:=f,data:=.seq items n,slots:=sl}/\s.heap.get? b=some {cls:=.type "dict",dict:=a,data:=.dict es e,slots:=c}/\R (.ok (.ret .notImplemented)) s):=
 .of_wp fun prog w A R s h=>by obtain⟨k,g,d,m,os⟩:=s;obtain⟨i,j,h⟩:=h;have o:=F.sub_dict_list;wp_walk using wpAny_loadPart' i,wpAny_loadPart' j;exact⟨_,rfl,h⟩
structure Ie (h:Heap) (b:Addr) (dd:Option Addr) (es:Array DictEntry) (n:Nat) (sl:Array (Option Value)):Prop where
 ho:h.get? b=some {cls:=.type "dict",dict:=dd,data:=.dict es n,slots:=sl}
theorem Oi {b:Addr} {d:Option Addr} {es:Array DictEntry} {n:Nat} {sl:Array (Option Value)} (i:Int) (u:Tok) (c:Ie s.heap b d es n sl) (e:A.units<cLine):SeqAt.RcAt A s (.int i u) (.ref b) false:=fun prog w E Q h=>
 SeqAt.rc_eq_decline_or (k:=false) (typeIs_int s i u) ⟨_,c.ho,rfl⟩ (by decide) F.sub_dict_int F.slot_int_eq F.slot_dict_eq_refl
  (fun _ a=>call_meets F.slot_int_eq (typeIs_int s i u) F.entry_int_eq (F.args_int_eq_2 _ _) (DC i u b (.type "dict") es n d sl) ⟨c.ho,a⟩)
  (fun _ a=>Bm ⟨_,c.ho,rfl⟩ (typeIs_int s i u) F.sub_int_dict a)
  (fun _ a=>wpAny_of_eq (rfl:isSame (.int i u) (.ref b)=pure false) a) (.inr e) h
theorem Oj {b:Addr} {d:Option Addr} {es:Array DictEntry} {n:Nat} {sl:Array (Option Value)} (i:Int) (u:Tok) (c:Ie s.heap b d es n sl) (e:A.units<cLine):SeqAt.RcAt A s (.ref b) (.int i u) false:=fun prog w E Q h=>
 SeqAt.rc_eq_decline_or (k:=false) ⟨_,c.ho,rfl⟩ (typeIs_int s i u) (by decide) F.sub_int_dict F.slot_dict_eq F.slot_int_eq_refl
  (fun _ a=>Bm ⟨_,c.ho,rfl⟩ (typeIs_int s i u) F.sub_int_dict a)
  (fun _ a=>call_meets F.slot_int_eq_refl (typeIs_int s i u) F.entry_int_eq (F.args_int_eq_2 _ _) (DC i u b (.type "dict") es n d sl) ⟨c.ho,a⟩)
  (fun _ a=>wpAny_of_eq (rfl:isSame (.ref b) (.int i u)=pure false) a) (.inr e) h
theorem Ol {b:Addr} {d:Option Addr} {es:Array DictEntry} {n:Nat} {sl:Array (Option Value)} (x:Str) (u:Tok) (c:Ie s.heap b d es n sl) (e:A.units<cLine):SeqAt.RcAt A s (.str x u) (.ref b) false:=fun prog w E Q h=>
 SeqAt.rc_eq_decline_or (k:=false) (typeIs_str s x u) ⟨_,c.ho,rfl⟩ (by decide) F.sub_dict_str F.slot_str_eq F.slot_dict_eq_refl
  (fun _ a=>call_meets F.slot_str_eq (typeIs_str s x u) F.entry_str_eq (F.args_str_eq_2 _ _) (DD x u b (.type "dict") es n d sl) ⟨c.ho,a⟩)
  (fun _ a=>Bm ⟨_,c.ho,rfl⟩ (typeIs_str s x u) F.sub_str_dict a)
  (fun _ a=>wpAny_of_eq (rfl:isSame (.str x u) (.ref b)=pure false) a) (.inr e) h
theorem Om {b:Addr} {d:Option Addr} {es:Array DictEntry} {n:Nat} {sl:Array (Option Value)} (x:Str) (u:Tok) (c:Ie s.heap b d es n sl) (e:A.units<cLine):SeqAt.RcAt A s (.ref b) (.str x u) false:=fun prog w E Q h=>
 SeqAt.rc_eq_decline_or (k:=false) ⟨_,c.ho,rfl⟩ (typeIs_str s x u) (by decide) F.sub_str_dict F.slot_dict_eq F.slot_str_eq_refl
  (fun _ a=>Bm ⟨_,c.ho,rfl⟩ (typeIs_str s x u) F.sub_str_dict a)
  (fun _ a=>call_meets F.slot_str_eq_refl (typeIs_str s x u) F.entry_str_eq (F.args_str_eq_2 _ _) (DD x u b (.type "dict") es n d sl) ⟨c.ho,a⟩)
  (fun _ a=>wpAny_of_eq (rfl:isSame (.ref b) (.str x u)=pure false) a) (.inr e) h
theorem Z' {l b:Addr} {items:Array Value} {a:Option Addr} {es:Array DictEntry} {n:Nat} {sl:Array (Option Value)} {h:Heap} (hl:h.IsList l items) (c:Ie h b a es n sl):l≠b:=fun e=>by
 subst e
 obtain⟨o,ho,d,_⟩:=hl
 rw[c.ho]at ho
 cases ho
 exact absurd d (by simp)
theorem Mz {l b:Addr} {items:Array Value} {g:Option Addr} {es:Array DictEntry} {n:Nat} {sl:Array (Option Value)} (hl:s.heap.IsList l items) (a:Ie s.heap b g es n sl) (m:A.units<cLine):SeqAt.RcAt A s (.ref l) (.ref b) false:=fun prog w E Q h=>by
 have d:=Z' hl a
 obtain⟨⟨o,e,data,f⟩,ho,i,p,j⟩:=id hl
 simp only at i j
 subst i j
 exact(SeqAt.rc_eq_decline_or (k:=false) ⟨_,ho,rfl⟩ ⟨_,a.ho,rfl⟩ (by decide) F.sub_dict_list F.slot_list_eq F.slot_dict_eq_refl
  (fun _ c=>call_meets F.slot_list_eq ⟨_,ho,rfl⟩ F.entry_list_eq (F.args_list_eq_2 _ _) (Cu l b items es p n e g f sl) ⟨ho,a.ho,c⟩)
  (fun _ c=>Bm ⟨_,a.ho,rfl⟩ ⟨_,ho,rfl⟩ F.sub_list_dict c)
  (fun _ c=>SeqAt.wpAny_isSame_ref_other' d ho a.ho (by simp) c) (.inr m) h)
theorem M_ {l b:Addr} {items:Array Value} {g:Option Addr} {es:Array DictEntry} {n:Nat} {sl:Array (Option Value)} (hl:s.heap.IsList l items) (a:Ie s.heap b g es n sl) (m:A.units<cLine):SeqAt.RcAt A s (.ref b) (.ref l) false:=fun prog w E Q h=>by
 have d:=Z' hl a
 obtain⟨⟨o,e,data,f⟩,ho,i,p,j⟩:=id hl
 simp only at i j
 subst i j
 exact(SeqAt.rc_eq_decline_or (k:=false) ⟨_,a.ho,rfl⟩ ⟨_,ho,rfl⟩ (by decide) F.sub_list_dict F.slot_dict_eq F.slot_list_eq_refl
  (fun _ c=>Bm ⟨_,a.ho,rfl⟩ ⟨_,ho,rfl⟩ F.sub_list_dict c)
  (fun _ c=>call_meets F.slot_list_eq_refl ⟨_,ho,rfl⟩ F.entry_list_eq (F.args_list_eq_2 _ _) (Cu l b items es p n e g f sl) ⟨ho,a.ho,c⟩)
  (fun _ c=>SeqAt.wpAny_isSame_ref_other' d.symm a.ho ho (by simp) c) (.inr m) h)
end
open PySem.AutoSeq1 (wpAny_loadPart')
open PySem.MeetsSeq3
section
variable{prog:Program} {w:World} {A:Around} {s:Shared}
def jX (prog:Program) (w:World) (A:Around) (s:Shared) (u v:Value):Prop:=∀(E:Value->Shared->Prop) (Q:Bool->Shared->Prop),Q true s->wpAny (model prog w) A (eqBool u v) Q E s
def xW (prog:Program) (w:World) (A:Around) (s:Shared) (u v:Value):Prop:=∀(E:Value->Shared->Prop) (Q:Value->Shared->Prop),Q (.bool true) s->wpAny (model prog w) A (richCompare .Eq u v) Q E s
theorem jX.of {u v:Value} (h:SeqAt.EqAt A s u v true):jX prog w A s u v:=fun E Q a=>h prog w E Q a
theorem call_one {E:Value->Shared->Prop} {T:String} {name:Str} {id:String} {B:Builtin} {self:Value} {rest:List Value} {Q:Value->Shared->Prop} (slot:Slot T name id) (c:s.TypeIs self T) (entry:entryFor table id=some B) (args:argsOk id ⟨self::rest,[]⟩)
  (g:wpAny (model prog w) A.in1 (B ⟨self::rest,[]⟩) (fun fin a=>match fin with| .done f=>wants Q E (.ok f) a| .again b=>b.quiet=true/\codeAny (model prog w) A b (wants Q E) a) (fun e a=>wants Q E (.error e) a) s):
  wpAny (model prog w) A (call (.builtin id) (self::rest)) Q E s:=wpAny_call (codeAny_call_builtin slot.plain entry (slot.check _ _ _ _ _ _ _ _ c args g))
theorem Ly {l b:Addr} {items a:Array Value} (hl:s.heap.IsTuple l items) (G:s.heap.IsTuple b a) (hsz:items.size=a.size) (H:A.units<cLine)
  (I:∀j (v:j<items.size) (z:j<a.size),jX prog w A.in1 s items[j] a[j]):xW prog w A s (.ref l) (.ref b):=fun E Q h=>by
 obtain⟨⟨J,R,data,S⟩,r,B,n,C⟩:=id hl
 obtain⟨⟨D,K,data2,L⟩,f,k,T,m⟩:=id G
 simp only at B C k m
 subst B C k m
 refine wpAny_richCompare_same_room (op:=.Eq) ⟨_,r,rfl⟩ ⟨_,f,rfl⟩ F.slot_tuple_eq (wpAny_call_entry F.slot_tuple_eq ⟨_,r,rfl⟩ F.entry_tuple_eq ?_ (F.args_tuple_eq_2 _ _)) H
 obtain⟨M,g,d,N,os⟩:=s
 have U:=AutoSeq1.sub_tuple_tuple
 wp_walk using wpAny_loadPart' r,wpAny_loadPart' f,wpAny_forIn_list _ (fun rest b t=>b.1=none/\t=⟨M,g,d,N,os⟩/\∃i,rest=(items.toList.zip a.toList).drop i) _
 case turn=>
  rintro⟨y,x⟩ rest b t ⟨c,rfl,i,o⟩
  have p:i<(items.toList.zip a.toList).length:=by
   rcases Nat.lt_or_ge i (items.toList.zip a.toList).length with u|u
   ·exact u
   ·rw[List.drop_of_length_le u]at o;cases o
  have v:i<items.size:=by simp at p;lia
  have z:i<a.size:=by lia
  rw[List.drop_eq_getElem_cons p]at o
  injection o with q e
  have O:y=items[i]:=by have:=congrArg Prod.fst q;simpa using this
  have P:x=a[i]:=by have:=congrArg Prod.snd q;simpa using this
  subst O P
  refine wpAny_bind (I i v z _ _ ?_)
  wp_walk
  exact⟨rfl,rfl,i+1,e⟩
 case fin=>
  rintro⟨V,W⟩ t ⟨c,rfl,i,o⟩
  simp only at c
  subst c
  wp_walk
  exact⟨_,rfl,(fun x=>nomatch x),by simpa[Builtin.Tuple.tupleCompareSizes,hsz]using h⟩
 case h=>
  exact⟨rfl,rfl,0,rfl⟩
end
class BA (K:outParam ACh):Prop where
 x:True
structure Oo (H H':Hp):Prop where
 rd:FR H H'
 tp:∀a vs,H a=some (.tup vs)->H' a=some (.tup vs)
theorem Oo.of {H b:Hp} (s:AG H b):Oo H b:=⟨s.r,fun a c e=>s _ _ e⟩
theorem Oo.CZ {a:Addr} {o:Obj} {kvs:List (Key×V)} {H c:Hp} (F:Qu a o kvs H c):Oo H c:=⟨F.rd,fun b f e=>by
 have d:b≠a:=fun z=>by
  subst z
  rcases F.lN with r|⟨o,r⟩<;>rw[r]at e<;>cases e
 rw[F.ne b d];exact e⟩
theorem Oo.trans {H d H2:Hp} (a:Oo H d) (b:Oo d H2):Oo H H2:=⟨a.rd.trans b.rd,fun c f e=>b.tp c f (a.tp c f e)⟩
theorem Bj.Oq {K:ACh} {H b:Hp} {a:Addr} {xs:List V} (h:Bj K H a xs) (s:Oo H b):Bj K b a xs:=h.imp (fun r=>s.rd _ _ r) id
theorem Bj.up {K:ACh} {H b:Hp} {a:Addr} {xs:List V} (h:Bj K H a xs) (s:AG H b):Bj K b a xs:=h.Oq (.of s)
theorem Bj.put {K:ACh} {H:Hp} {a D:Addr} {xs:List V} {o:HO} (h:Bj K H a xs) (b:H D=none):Bj K (upd H D o) a xs:=h.up (AG.new b)
inductive aB (K:ACh) (H:Hp):V->String->Prop where
 |n {v:V} {T:String} (h:Lo H v T):aB K H v T
 |t {a:Addr} {xs:List V} (h:Bj K H a xs):aB K H (.ref a) "tuple"
theorem aB.Zx {K:ACh} {H:Hp} {v:V} {T:String} (h:aB K H v T):∃(a:Hp) (b:V),Lo a b T:=by
 cases h with
 |n h=>exact⟨H,v,h⟩
 |t h=>exact⟨upd H 0 (.tup []),.ref 0,.tup AE⟩
section
variable{X:Cx}
inductive DE (K:ACh) (xs:List V) (H:Hp) (Q:VK):Prop
 |mk (x:_) (c:_) (T:_) (a:xs=[x,.ty c]) (b:YJ c=true) (d:aB K H x T) (e:Q (.bl (Qk T c)) H):DE K xs H Q
theorem Ba:BJ X (.builtin "isinstance") (DE X.K):=by
 intro pins s v H i w Q I r h
 obtain⟨x,c,T,rfl,j,ty,q⟩:=h
 obtain⟨u,y,rfl,g,b⟩:=vals2 r
 cases b
 obtain⟨A,B,d⟩:=ty.Zx
 have e:=Rx (K:=X.K) d j
 cases ty with
 |n ty=>exact OR I g ty e fun f=>⟨.bl _,H,I.tok f,rfl,q⟩
 |@t a i k=>
  cases(show u=Value.ref a from g)
  obtain⟨_,_,p,_⟩:=I.tuple k
  obtain⟨o,l,m,_⟩:=p
  exact PySem.W.kia_one PySem.W.kitx_tuple I.Gf ⟨o,l,m⟩ e (fun z=>nomatch z) fun f=>⟨.bl _,H,I.tok f,rfl,q⟩
def WI (T:String):Bool:=T=="list"||T=="tuple"
theorem cF {K:ACh} {H:Hp} {v:V} {T:String} (h:Lo H v T):PySem.W.kitAny K (.type T) [.type "list",.type "tuple"]=some (WI T):=by
 cases h<;>kernel_rfl
inductive Qx (K:ACh) (xs:List V) (H:Hp) (Q:VK):Prop
 |mk (x:V) (p:Addr) (T:String) (a:xs=[x,.ref p]) (b:H p=some (.tup [.ty "list",.ty "tuple"])) (c:aB K H x T) (d:Q (.bl (WI T)) H):Qx K xs H Q
theorem Qy:BJ X (.builtin "isinstance") (Qx X.K):=by
 intro pins s G H l J Q I r h
 obtain⟨x,p,T,rfl,m,ty,q⟩:=h
 obtain⟨u,L,rfl,g,b⟩:=vals2 r
 cases b
 obtain⟨v,w,y,_⟩:=I.tuple (Bj.of m)
 obtain⟨⟨A,M,data,N⟩,i,j,n,k⟩:=id y
 simp only at j k
 subst j k
 obtain⟨O,P,c⟩:=ty.Zx
 have e:=cF (K:=X.K) c
 cases w with
 |cons B d=>
  cases d with
  |cons C d=>
   cases d
   cases B
   cases C
   cases ty with
   |n ty=>exact Qm I g ty i e fun f=>⟨.bl _,H,I.tok f,rfl,q⟩
   |@t a l D=>
    cases(show u=Value.ref a from g)
    obtain⟨_,_,p,_⟩:=I.tuple D
    obtain⟨o,E,F,_⟩:=p
    exact PySem.W.kia_tup PySem.W.kitx_tuple I.Gf ⟨o,E,F⟩ i e (fun z=>nomatch z) fun f=>⟨.bl _,H,I.tok f,rfl,q⟩
end
inductive Pt where
 |int (i:Int)
 |str (x:Str)
 |bl (b:Bool)
 |lst (xs:List Pt)
 |tup (xs:List Pt)
 |BM (ks:List Str) (xs:List Pt)
namespace Pt
mutual
def size:Pt->Nat
 |int _|str _|bl _=>1
 |lst xs|tup xs=>1+AI xs
 |BM _ xs=>1+AI xs
def AI:List Pt->Nat
 |[]=>0
 |x::r=>size x+AI r
end
mutual
def deep:Pt->Nat
 |int _|str _|bl _=>1
 |lst xs|tup xs=>1+AW xs
 |BM _ xs=>1+AW xs
def AW:List Pt->Nat
 |[]=>0
 |x::r=>max (deep x) (AW r)
end
mutual
def doc:Pt->Prop
 |int _=>True
 |str x=>x.length<=100
 |bl _=>False
 |tup _=>False
 |lst xs=>CU xs
 |BM ks xs=>ks.length=xs.length/\ks.Nodup/\(∀k∈ks,CL k=true)/\ks.length<64/\CU xs
def CU:List Pt->Prop
 |[]=>True
 |x::r=>doc x/\CU r
end
def look (ks:List Str) (xs:List Pt) (k:Str):Option Pt:=(ks.zip xs).lookup k
mutual
def Bf:Pt->Pt->Bool
 |int i,int j=>i==j
 |str x,str y=>x==y
 |bl a,bl b=>a==b
 |lst xs,lst ys=>CO xs ys
 |tup xs,tup ys=>CO xs ys
 |BM ks xs,BM ls ys=>ks.length==ls.length&&LQ ks xs ls ys
 |_,_=>false
def CO:List Pt->List Pt->Bool
 |[],[]=>true
 |x::xs,y::ys=>Bf x y&&CO xs ys
 |_,_=>false
def LQ:List Str->List Pt->List Str->List Pt->Bool
 |k::ks,x::xs,ls,ys=>(match look ls ys k with|some y=>Bf x y|none=>false)&&LQ ks xs ls ys
 |_,_,_,_=>true
end
theorem size_pos (t:Pt):1<=t.size:=by cases t<;>simp only[size]<;>lia
theorem De (t:Pt):1<=t.deep:=by cases t<;>simp only[deep]<;>lia
theorem Bh:∀{xs:List Pt} {x:Pt},x∈xs->x.size<=AI xs
 |y::r,x,h=>by
  simp only[AI]
  rcases List.mem_cons.mp h with rfl|h
  ·lia
  ·have:=Bh h;lia
theorem Ao:∀{xs:List Pt} {x:Pt},x∈xs->x.deep<=AW xs
 |y::r,x,h=>by
  simp only[AW]
  rcases List.mem_cons.mp h with rfl|h
  ·lia
  ·have:=Ao h;lia
theorem Cm:∀xs:List Pt,xs.length<=AI xs
 |[]=>Nat.le_refl _
 |x::r=>by have:=Cm r;have:=size_pos x;simp only[List.length_cons,AI];lia
theorem Ap:∀{xs:List Pt},CU xs->∀x∈xs,doc x
 |y::r,h,x,a=>by
  simp only[CU]at h
  rcases List.mem_cons.mp a with rfl|a
  ·exact h.1
  ·exact Ap h.2 x a
theorem Dt:∀{xs:List Pt},(∀x∈xs,doc x)->CU xs
 |[],_=>trivial
 |x::r,h=>⟨h x List.mem_cons_self,Dt fun y a=>h y (List.mem_cons_of_mem _ a)⟩
theorem Ai (xs ys:List Pt):AI (xs++ys)=AI xs+AI ys:=by
 induction xs with
 |nil=>simp[AI]
 |cons x r a=>simp only[List.cons_append,AI,a];lia
theorem WJ {ks:List Str} {xs:List Pt} {k:Str} {x:Pt} (h:look ks xs k=some x):k∈ks/\x∈xs:=by
 unfold look at h
 induction ks generalizing xs with
 |nil=>simp at h
 |cons y r a=>
  cases xs with
  |nil=>simp at h
  |cons z b=>
   simp only[List.zip_cons_cons,List.lookup_cons]at h
   by_cases e:k=y
   ·subst e
    simp at h
    subst h
    exact⟨List.mem_cons_self,List.mem_cons_self⟩
   ·have:(k==y)=false:=by simpa using e
    rw[this]at h
    have:=a h
    exact⟨List.mem_cons_of_mem _ this.1,List.mem_cons_of_mem _ this.2⟩
theorem UC {ks:List Str} {xs:List Pt} (l:ks.length=xs.length) {k:Str} (a:k∈ks):∃x,look ks xs k=some x:=by
 unfold look
 induction ks generalizing xs with
 |nil=>cases a
 |cons y r b=>
  cases xs with
  |nil=>simp at l
  |cons z c=>
   simp only[List.zip_cons_cons,List.lookup_cons]
   by_cases e:k=y
   ·subst e;exact⟨z,by simp⟩
   ·have:(k==y)=false:=by simpa using e
    rw[this]
    exact b (by simpa using l) ((List.mem_cons.mp a).resolve_left e)
end Pt
mutual
inductive Val {K:ACh} [BA K] (H:Hp):V->Pt->Prop
 |int (i:Int):Val H (.int i) (.int i)
 |str (x:Str):Val H (.str x) (.str x)
 |bl (b:Bool):Val H (.bl b) (.bl b)
 |lst {a:Addr} {vs:List V} {ts:List Pt} (h:Rd H a (.lst vs)) (r:Aa H vs ts):Val H (.ref a) (.lst ts)
 |tup {a:Addr} {vs:List V} {ts:List Pt} (h:Bj K H a vs) (r:Aa H vs ts):Val H (.ref a) (.tup ts)
 |BM {a:Addr} {kvs:List (Key×V)} {ks:List Str} {ts:List Pt} (h:Rd H a (.dK kvs)) (c:kvs.map (·.1)=ks.map Sum.inr) (r:Aa H (kvs.map (·.2)) ts):Val H (.ref a) (.BM ks ts)
inductive Aa {K:ACh} [BA K] (H:Hp):List V->List Pt->Prop
 |nil:Aa H [] []
 |cons {v:V} {t:Pt} {vs:List V} {ts:List Pt} (h:Val H v t) (r:Aa H vs ts):Aa H (v::vs) (t::ts)
end
section
variable{K:ACh} [BA K]
mutual
theorem Val.Oq {H a:Hp} (s:Oo H a):∀{v:V} {t:Pt},Val H v t->Val a v t
 |_,_,.int i=>.int i
 |_,_,.str x=>.str x
 |_,_,.bl b=>.bl b
 |_,_,.lst h r=>.lst (s.rd _ _ h) (r.Oq s)
 |_,_,.tup h r=>.tup (h.Oq s) (r.Oq s)
 |_,_,.BM h c r=>.BM (s.rd _ _ h) c (r.Oq s)
theorem Aa.Oq {H a:Hp} (s:Oo H a):∀{vs:List V} {ts:List Pt},Aa H vs ts->Aa a vs ts
 |_,_,.nil=>.nil
 |_,_,.cons h r=>.cons (h.Oq s) (r.Oq s)
end
theorem Val.up {H a:Hp} {v:V} {t:Pt} (h:Val H v t) (s:AG H a):Val a v t:=h.Oq (.of s)
theorem Aa.up {H a:Hp} {v:List V} {t:List Pt} (h:Aa H v t) (s:AG H a):Aa a v t:=h.Oq (.of s)
theorem Aa.length {H:Hp}:∀{vs:List V} {ts:List Pt},Aa H vs ts->vs.length=ts.length
 |_,_,.nil=>rfl
 |_,_,.cons _ r=>by rw[List.length_cons,List.length_cons,r.length]
theorem Aa.get {H:Hp}:∀{vs:List V} {ts:List Pt},Aa H vs ts->∀{i:Nat} {v:V},vs[i]?=some v->∃t,ts[i]?=some t/\Val H v t
 |_,_,.nil,i,v,h=>by simp at h
 |_,_,.cons h r,0,v,e=>by
  simp at e
  subst e
  exact⟨_,by simp,h⟩
 |_,_,.cons h r,i+1,v,e=>by
  obtain⟨t,a,b⟩:=r.get (i:=i) (v:=v) (by simpa using e)
  exact⟨t,by simpa using a,b⟩
theorem Aa.get' {H:Hp}:∀{vs:List V} {ts:List Pt},Aa H vs ts->∀{i:Nat} {t:Pt},ts[i]?=some t->∃v,vs[i]?=some v/\Val H v t
 |_,_,.nil,i,v,h=>by simp at h
 |_,_,.cons h r,0,v,e=>by
  simp at e
  subst e
  exact⟨_,by simp,h⟩
 |_,_,.cons h r,i+1,v,e=>by
  obtain⟨t,a,b⟩:=r.get' (i:=i) (t:=v) (by simpa using e)
  exact⟨t,by simpa using a,b⟩
theorem Aa.append {H:Hp}:∀{vs:List V} {ts:List Pt},Aa H vs ts->∀{ws:List V} {us:List Pt},Aa H ws us->Aa H (vs++ws) (ts++us)
 |_,_,.nil,_,_,s=>s
 |_,_,.cons h r,_,_,s=>.cons h (r.append s)
theorem Aa.of {H:Hp}:∀{vs:List V} {ts:List Pt},vs.length=ts.length->(∀(i:Nat) v t,vs[i]?=some v->ts[i]?=some t->Val H v t)->Aa H vs ts
 |[],[],_,_=>.nil
 |[],_::_,l,_=>by simp at l
 |_::_,[],l,_=>by simp at l
 |v::vs,t::ts,l,h=>.cons (h 0 v t (by simp) (by simp)) (Aa.of (by simpa using l) fun i w u a b=>h (i+1) w u (by simpa using a) (by simpa using b))
theorem Val.C' {H:Hp}:∀{kvs:List (Key×V)} {ks:List Str} {ts:List Pt},kvs.map (·.1)=ks.map Sum.inr->Aa H (kvs.map (·.2)) ts->∀k:Str,(∃v t,CS kvs (Sum.inr k)=some v/\Pt.look ks ts k=some t/\Val H v t)∨(CS kvs (Sum.inr k)=none/\Pt.look ks ts k=none)
 |[],[],_,_,r,k=>by cases r;exact .inr ⟨rfl,rfl⟩
 |[],_::_,_,h,_,_=>by simp at h
 |_::_,[],_,h,_,_=>by simp at h
 |(y,v)::kvs,x::ks,ts,h,r,k=>by
  simp only[List.map_cons,List.cons.injEq]at h
  obtain⟨e,h⟩:=h
  subst e
  cases r with
  |@cons _ t _ ts a r=>
   by_cases e:k=x
   ·subst e
    exact .inl ⟨v,t,DV rfl,by simp[Pt.look],a⟩
   ·have b:(k==x)=false:=by simpa using e
    have c:CS ((Sum.inr x,v)::kvs) (Sum.inr k)=CS kvs (Sum.inr k):=DW (by intro z;exact e (Sum.inr.inj z).symm)
    have d:Pt.look (x::ks) (t::ts) k=Pt.look ks ts k:=by simp[Pt.look,List.zip_cons_cons,List.lookup_cons,b]
    rw[c,d]
    exact Val.C' h r k
end
section
variable{K:ACh} [BA K]
theorem Val.Ye {H:Hp} {v:V} {x:Str} (h:Val H v (.str x)):v=.str x:=by cases h;rfl
theorem Val.tY {H:Hp} {v:V} {x:Bool} (h:Val H v (.bl x)):v=.bl x:=by cases h;rfl
theorem Val.tupI {H:Hp} {v:V} {ts:List Pt} (h:Val H v (.tup ts)):∃a vs,v=.ref a/\Bj K H a vs/\Aa H vs ts:=by cases h with|tup h r=>exact⟨_,_,rfl,h,r⟩
theorem Val.gK {H:Hp} {v:V} {ts:List Pt} (h:Val H v (.lst ts)):∃a vs,v=.ref a/\Rd H a (.lst vs)/\Aa H vs ts:=by cases h with|lst h r=>exact⟨_,_,rfl,h,r⟩
theorem Val.lT {H:Hp} {v:V} {ks:List Str} {ts:List Pt} (h:Val H v (.BM ks ts)):∃(a:Addr) (kvs:List (Key×V)),v=.ref a/\Rd H a (.dK kvs)/\kvs.map (·.1)=ks.map Sum.inr/\Aa H (kvs.map (·.2)) ts:=by cases h with|BM h b r=>exact⟨_,_,rfl,h,b,r⟩
theorem Aa.GU {H:Hp} {vs:List V} {t:Pt} {ts:List Pt} (h:Aa H vs (t::ts)):∃v a,vs=v::a/\Val H v t/\Aa H a ts:=by cases h with|cons h r=>exact⟨_,_,rfl,h,r⟩
theorem Aa.Yf {H:Hp} {vs:List V} (h:Aa H vs []):vs=[]:=by cases h;rfl
end
section
variable{X:Cx} [BA X.K] {pins:List (Addr×Obj)} {σ:St} {H:Hp} {s:Shared}
theorem Aa.at {vs:List V} {ts:List Pt} {its:List Value} (r:Aa H vs ts) (c:Vals vs its) {j:Nat} (h:j<its.toArray.size):∃v t,vs[j]?=some v/\ts[j]?=some t/\Val H v t/\RelV v its.toArray[j]:=by
 obtain⟨v,b,a⟩:=Ya c h
 obtain⟨t,d,e⟩:=r.get b
 exact⟨v,t,b,d,e,a⟩
end
section
inductive lU {K:ACh} [BA K] (x y:V) (H:Hp) (Q:VK):Prop
 |mk (a b:Addr) (t:Pt) (c:x=.ref a) (e:y=.ref b) (f:Val H (.ref a) t) (g:Val H (.ref b) t) (d:t.deep<=60) (q:Q (.bl true) H):lU x y H Q
end
section
variable{X:Cx}
end
inductive UD:Pt->Prop
 |int (i:Int):UD (.int i)
 |str (x:Str):UD (.str x)
 |nil:UD (.lst [])
 |emp:UD (.BM [] [])
inductive Sm:Pt->Prop
 |one {t:Pt} (h:UD t):Sm t
 |row {xs:List Pt} (h:∀x∈xs,UD x):Sm (.lst xs)
 |tab {ks:List Str} {xs:List Pt} (h:∀x∈xs,UD x):Sm (.BM ks xs)
section
variable{A:Around} {s:Shared}
end
section
variable{X:Cx} [BA X.K] {pins:List (Addr×Obj)} {σ:St} {H:Hp} {s:Shared}
theorem B_:∀{xs ys:List Pt},xs.length≠ys.length->Pt.CO xs ys=false
 |[],[],h=>by simp at h
 |[],_::_,_=>by simp[Pt.CO]
 |_::_,[],_=>by simp[Pt.CO]
 |x::xs,y::ys,h=>by
  have:=B_ (xs:=xs) (ys:=ys) (by simpa using h)
  simp[Pt.CO,this]
def pairE (xs ys:List Pt) (j:Nat):Bool:=match xs[j]?,ys[j]? with
 |some x,some y=>Pt.Bf x y
 |_,_=>false
theorem KD:∀{xs ys:List Pt},xs.length=ys.length->(List.range xs.length).all (pairE xs ys)=Pt.CO xs ys
 |[],[],_=>by simp[Pt.CO]
 |[],_::_,h=>by simp at h
 |_::_,[],h=>by simp at h
 |x::xs,y::ys,h=>by
  have a:=KD (xs:=xs) (ys:=ys) (by simpa using h)
  rw[List.length_cons,List.range_succ_eq_map,List.all_cons,List.all_map]
  have b:pairE (x::xs) (y::ys) 0=Pt.Bf x y:=by simp[pairE]
  have c:(pairE (x::xs) (y::ys)∘Nat.succ)=pairE xs ys:=by
   funext j
   simp[pairE]
  rw[b,c,a]
  simp[Pt.CO]
theorem II (I:Inv X pins σ H s) {a:Addr} {kvs:List (Key×V)} (h:Rd H a (.dK kvs)):(a==sysModules)=false/\∃b es n sl,Ie s.heap a b es n sl/\es.size=kvs.length:=by
 obtain⟨z,g,l,c,⟨⟨d,b,data,sl⟩,es,n,i,j,f,m,k,o⟩⟩:=EI I.BO h
 have e:d=.type "dict":=j.1
 simp only at f
 subst e f
 refine⟨g,b,es,n,sl,⟨i⟩,?_⟩
 have:=k.length
 rw[c.length,<-this]
 simp
end
section
inductive lV {K:ACh} [BA K] (x y:V) (H:Hp) (Q:VK):Prop
 |mk (p t:Pt) (a:Val H x p) (b:Val H y t) (c:Sm p) (d:t.doc) (q:Q (.bl (Pt.Bf p t)) H):lV x y H Q
end
section
variable{X:Cx}
end
def lk {a:Type} (ks:List Str) (xs:List a) (k:Str):Option a:=(ks.zip xs).lookup k
theorem DL {a:Type} {y k:Str} {r:List Str} {z:a} {zs:List a}:lk (y::r) (z::zs) k=if k=y then some z else lk r zs k:=by
 unfold lk
 rw[List.zip_cons_cons,List.lookup_cons]
 by_cases e:k=y
 ·subst e;simp
 ·have:(k==y)=false:=by simpa using e
  rw[this,if_neg e]
theorem Dg {a:Type} {ks:List Str} {xs:List a} {k:Str} {x:a} (h:lk ks xs k=some x):k∈ks/\x∈xs:=by
 induction ks generalizing xs with
 |nil=>simp[lk]at h
 |cons y r b=>
  cases xs with
  |nil=>simp[lk]at h
  |cons z c=>
   rw[DL]at h
   by_cases e:k=y
   ·rw[if_pos e]at h
    cases h
    exact⟨by rw[e];exact List.mem_cons_self,List.mem_cons_self⟩
   ·rw[if_neg e]at h
    have:=b h
    exact⟨List.mem_cons_of_mem _ this.1,List.mem_cons_of_mem _ this.2⟩
theorem Gw {b:Type} {ks:List Str} {xs:List b} (l:ks.length=xs.length) {k:Str} (a:k∈ks):∃x,lk ks xs k=some x:=by
 induction ks generalizing xs with
 |nil=>cases a
 |cons y r c=>
  cases xs with
  |nil=>simp at l
  |cons z d=>
   rw[DL]
   by_cases e:k=y
   ·rw[if_pos e];exact⟨z,rfl⟩
   ·rw[if_neg e]
    exact c (by simpa using l) ((List.mem_cons.mp a).resolve_left e)
def pk {a:Type} (f:a->Pt->Bool):Option a->Option Pt->Bool
 |some x,some y=>f x y
 |_,_=>false
def IJ {a:Type} (f:a->Pt->Bool):List Str->List a->List Str->List Pt->Bool
 |k::ks,x::xs,ls,ys=>(match lk ls ys k with|some y=>f x y|none=>false)&&IJ f ks xs ls ys
 |_,_,_,_=>true
theorem WK {d:Type} {a b:List d} (p:a.Perm b) (f:d->Bool):a.all f=b.all f:=by
 rw[Bool.eq_iff_iff,List.all_eq_true,List.all_eq_true]
 exact⟨fun h x c=>h x (p.mem_iff.mpr c),fun h x c=>h x (p.mem_iff.mp c)⟩
theorem JS {b:Type} (f:b->Pt->Bool) {ls:List Str} {ys:List Pt}:∀{ks:List Str} {xs:List b},ks.length=xs.length->ks.Nodup->IJ f ks xs ls ys=ks.all fun k=>pk f (lk ks xs k) (lk ls ys k)
 |[],[],_,_=>by simp[IJ]
 |[],_::_,h,_=>by simp at h
 |_::_,[],h,_=>by simp at h
 |k::ks,x::xs,l,nd=>by
  obtain⟨c,d⟩:=List.nodup_cons.mp nd
  rw[List.all_cons,DL,if_pos rfl]
  simp only[IJ]
  rw[JS f (ks:=ks) (xs:=xs) (by simpa using l) d]
  congr 1
  ·cases lk ls ys k<;>rfl
  ·rw[Bool.eq_iff_iff,List.all_eq_true,List.all_eq_true]
   have e:∀y∈ks,lk (k::ks) (x::xs) y=lk ks xs y:=fun y a=>by
    rw[DL,if_neg (fun z=>c (by rw[<-z];exact a))]
   exact⟨fun h y a=>by rw[e y a];exact h y a,fun h y a=>by have:=h y a;rwa [e y a]at this⟩
theorem WL {e:Type} (f:e->Pt->Bool) {ls ks ss:List Str} {ys bs:List Pt} {xs as:List e} (l:ks.length=xs.length) (nd:ks.Nodup) (g:ss.Perm ks) (c:ss.map (lk ks xs)=as.map some) (d:ss.map (lk ls ys)=bs.map some):
  IJ f ks xs ls ys=(as.zip bs).all fun p=>f p.1 p.2:=by
 rw[JS f l nd,<-WK g]
 clear g nd l
 induction ss generalizing as bs with
 |nil=>
  have:as=[]:=by cases as with|nil=>rfl|cons _ _=>simp at c
  subst this
  simp
 |cons k r h=>
  cases as with
  |nil=>simp at c
  |cons a as=>
   cases bs with
   |nil=>simp at d
   |cons b bs=>
    simp only[List.map_cons,List.cons.injEq]at c d
    rw[List.all_cons,List.zip_cons_cons,List.all_cons,h c.2 d.2,c.1,d.1]
    rfl
theorem KG:∀{ks ls:List Str},ks.Nodup->ls.Nodup->ks.length=ls.length->(∀k∈ks,k∈ls)->ks.Perm ls
 |[],ls,_,_,l,_=>by
  have:ls=[]:=by cases ls with|nil=>rfl|cons _ _=>simp at l
  subst this
  exact .refl _
 |k::ks,ls,f,g,l,h=>by
  obtain⟨a,b,e⟩:=List.append_of_mem (h k List.mem_cons_self)
  subst e
  have c:(a++k::b).Perm (k::(a++b)):=List.perm_middle
  obtain⟨i,j⟩:=List.nodup_cons.mp f
  have m:(k::(a++b)).Nodup:=c.nodup_iff.mp g
  obtain⟨o,n⟩:=List.nodup_cons.mp m
  refine(List.Perm.cons k (KG j n (by simp at l⊢;lia) fun x d=>?_)).trans c.symm
  have:=c.mem_iff.mp (h x (List.mem_cons_of_mem _ d))
  exact(List.mem_cons.mp this).resolve_left fun z=>i (by rw[<-z];exact d)
theorem Lz {ls:List Str} {ys:List Pt}:∀{ks:List Str} {xs:List Pt},Pt.LQ ks xs ls ys=IJ Pt.Bf ks xs ls ys
 |[],xs=>by simp[Pt.LQ,IJ]
 |_::_,[]=>by simp[Pt.LQ,IJ]
 |k::ks,x::xs=>by simp only[Pt.LQ,IJ];rw[Lz];rfl
def SQ:Pt->List V->Prop
 | .lst xs,l=>l=(List.range xs.length).map fun(i:Nat)=>V.int (i:Int)
 | .BM ks _,l=>∃ss:List Str,l=ss.map V.str/\ss.Perm ks/\sortedS ss=true
 |_,l=>l=[]
def Ig:Pt->Prop
 | .int _=>True
 | .str _=>True
 | .lst xs=>xs.length<=900
 | .BM ks xs=>ks.length=xs.length/\ks.length<64
 |_=>False
def JF:Pt->List Pt->Prop
 | .lst xs,ts=>ts=xs
 | .BM ks xs,ts=>∃ss:List Str,ss.Perm ks/\sortedS ss=true/\ss.map (lk ks xs)=ts.map some
 |_,ts=>ts=[]
theorem JF.one {t:Pt} {as bs:List Pt} (h:JF t as) (h':JF t bs):as=bs:=by
 cases t with
 |lst c=>exact(show as=c from h).trans (show bs=c from h').symm
 |BM l c=>
  obtain⟨m,e,f,g⟩:=h
  obtain⟨n,i,j,d⟩:=h'
  have:=CN f j (e.trans i.symm)
  subst this
  rw[g]at d
  have inj:∀{a b:List Pt},a.map some=b.map some->a=b:=by
   intro a
   induction a with
   |nil=>intro b h;cases b with|nil=>rfl|cons _ _=>simp at h
   |cons x r k=>
    intro b h
    cases b with
    |nil=>simp at h
    |cons y q=>
     simp only[List.map_cons,List.cons.injEq]at h
     rw[ACf h.1,k h.2]
  exact inj d
 |_=>exact(show as=[]from h).trans (show bs=[]from h').symm
section
variable{K:ACh} [BA K]
def cH (H:Hp) (v s e:V):Prop:=(∃a b j,v=.ref a/\Rd H a (.lst b)/\s=.int ((j:Nat):Int)/\b[j]?=some e)∨∃a kvs k,v=.ref a/\Rd H a (.dK kvs)/\s=.str k/\CS kvs (Sum.inr k)=some e
theorem Ot {H:Hp} {kvs:List (Key×V)} {ks:List Str} {ts:List Pt} (d:kvs.map (·.1)=ks.map Sum.inr) (r:Aa H (kvs.map (·.2)) ts) (l:ks.length=ts.length):∀{ss:List Str},(∀k∈ss,k∈ks)->
  ∃(es:List V) (us:List Pt),Aa H es us/\ss.map (lk ks ts)=us.map some/\es.length=ss.length/\∀(i:Nat) e,es[i]?=some e->∃k,ss[i]?=some k/\CS kvs (Sum.inr k)=some e
 |[],_=>⟨[],[],.nil,rfl,rfl,fun i e h=>by simp at h⟩
 |k::ss,h=>by
  obtain⟨es,us,f,g,j,h4⟩:=Ot d r l (ss:=ss) fun x a=>h x (List.mem_cons_of_mem _ a)
  rcases Val.C' d r k with⟨v,t,m,b,n⟩|⟨_,b⟩
  ·refine⟨v::es,t::us,.cons n f,by rw[List.map_cons,List.map_cons,g];congr 1,by rw[List.length_cons,List.length_cons,j],fun i e c=>?_⟩
   cases i with
   |zero=>simp at c;subst c;exact⟨k,by simp,m⟩
   |succ i=>
    obtain⟨o,a1,a2⟩:=h4 i e (by simpa using c)
    exact⟨o,by simpa using a1,a2⟩
  ·obtain⟨x,a⟩:=Pt.UC l (h k List.mem_cons_self)
   rw[a]at b
   cases b
theorem Val.kids {H:Hp} {v:V} {t:Pt} {l:List V} (m:Val H v t) (hold:Ig t) (st:SQ t l):∃(es:List V) (us:List Pt),Aa H es us/\JF t us/\es.length=l.length/\∀(i:Nat) e,es[i]?=some e->∃s,l[i]?=some s/\cH H v s e:=by
 cases m with
 |int i=>rw[show l=[]from st];exact⟨[],[],.nil,rfl,rfl,fun i e h=>by simp at h⟩
 |str i=>rw[show l=[]from st];exact⟨[],[],.nil,rfl,rfl,fun i e h=>by simp at h⟩
 |bl b=>exact hold.elim
 |tup _ _=>exact hold.elim
 |@lst a d f h r=>
  have e:=r.length
  rw[show l=_ from st]
  refine⟨d,f,r,rfl,by simp[e],fun i x g=>⟨.int (i:Int),?_,.inl ⟨a,d,i,rfl,h,rfl,g⟩⟩⟩
  have y:=(ACe g).1
  rw[List.getElem?_map,List.getElem?_range (by lia)]
  rfl
 |@BM a kvs z f h c r=>
  obtain⟨ss,rfl,j,n⟩:=st
  obtain⟨es,us,o,p,q,u⟩:=Ot c r hold.1 (ss:=ss) fun k c=>j.mem_iff.mp c
  refine⟨es,us,o,⟨ss,j,n,p⟩,by rw[List.length_map];exact q,fun i e w=>?_⟩
  obtain⟨k,k1,k2⟩:=u i e w
  exact⟨.str k,by rw[List.getElem?_map,k1];rfl,.inr ⟨a,kvs,k,rfl,h,rfl,k2⟩⟩
def Pt.Uk:Pt->String
 | .int _=>"int"
 | .str _=>"str"
 | .bl _=>"bool"
 | .lst _=>"list"
 | .tup _=>"tuple"
 | .BM _ _=>"dict"
theorem Val.ty {H:Hp} {v:V} {t:Pt} (h:Val H v t):aB K H v t.Uk:=by
 cases h with
 |int i=>exact .n (.int i)
 |str x=>exact .n (.str x)
 |bl b=>exact .n (.bl b)
 |lst h _=>exact .n (.lst h)
 |tup h _=>exact .t h
 |BM h _ _=>exact .n (.dK h)
theorem Val.lW {H:Hp} {v:V} {t:Pt} (h:Val H v t) (d:t.doc):Lo H v t.Uk:=by
 cases h with
 |int i=>exact .int i
 |str x=>exact .str x
 |bl b=>exact .bl b
 |lst h _=>exact .lst h
 |tup h _=>simp[Pt.doc]at d
 |BM h _ _=>exact .dK h
def FV:Sp:=fun b H Q _=>∃(v:V) (t:Pt),b=[v]/\Val H v t/\Ig t/\∀(p:Addr) (l:List V) (a:Hp),AG H a->H p=none->a p=some (.lst l)->SQ t l->Q (.ref p) a
def Gx:Sp:=fun d H Q _=>∃(G:Hp) (v:V) (t:Pt),d=[v]/\AG G H/\Val G v t/\Ig t/\∀(p:Addr) (b:List V) (c:List Pt) (a:Hp),AG H a->H p=none->a p=some (.lst b)->Aa G b c->JF t c->Q (.ref p) a
inductive M' {K:ACh} [BA K] (G H:Hp):List Addr->List (Pt×Pt)->Prop
 |nil:M' G H [] []
 |cons {t:Addr} {u v:V} {p:Pt×Pt} {ts:List Addr} {ps:List (Pt×Pt)} (h:H t=some (.tup [u,v])) (a:Val G u p.1) (b:Val G v p.2) (r:M' G H ts ps):M' G H (t::ts) (p::ps)
end
section
variable{X:Cx}
inductive gL (K:ACh) (xs:List V) (H:Hp) (Q:VK):Prop
 |mk (p:Addr) (bs:List Bool) (a:xs=[.ref p]) (b:Ah K H p (bs.map V.bl)) (c:Q (.bl (bs.any id)) H):gL K xs H Q
theorem WM (x:X.calm=true):BJ X (.builtin "any") (gL X.K):=by
 intro pins s L H M N Q I r h
 obtain⟨p,bs,rfl,y,q⟩:=h
 obtain⟨u,rfl,k⟩:=vals1 r
 cases k
 obtain⟨c,l,t,O⟩:=I.list y
 obtain⟨B,d,f⟩:=id t.isList
 have m:p<s.heap.objs.size:=Heap.lt_size d
 have n:X.A.in1.handled=none:=I.ok.hd x
 have hlen:c.toArray.size=bs.length:=by rw[List.size_toArray,<-l.length,List.length_map]
 refine call_any_walk (wpAny_pyIter_list t.isList ⟨s.heap.objs.size,_,_,_,_,_,fun i=>bs.getD i true,rfl,Walks.list n s.heap.objs.size p (Nat.ne_of_lt m) c.toArray,⟨⟨_,Heap.get?_push_size _ rfl,rfl,rfl⟩,⟨B,Heap.get?_push_of_some _ d,f⟩⟩,?_,fun P C kept=>?_⟩)
 ·intro i v D E R g j
  have g:c[i]?=some v:=by simpa using g
  have a:i<bs.length:=by
   have:=(ACe g).1
   rw[<-l.length,List.length_map]at this
   exact this
  have e:(bs.map V.bl)[i]?=some (V.bl bs[i]):=by rw[List.getElem?_map,ACd a];rfl
  obtain⟨u,w,k⟩:=l.get e
  rw[g]at w
  cases w
  cases k
  have F:bs.getD i true=bs[i]:=by rw[List.getD_eq_getElem?_getD,ACd a];rfl
  have j:E (bs.getD i true) D:=j
  rw[F]at j
  exact wpAny_truthy_bool j
 ·refine⟨.bl (bs.any id),H,I.kept (t':=C) fun b o e=>kept b o (fun z=>?_) (Heap.get?_push_of_some _ e),?_,q⟩
  ·have G:b=s.heap.objs.size:=by simpa using z
   exact Nat.ne_of_lt (Heap.lt_size e) G
  ·show Value.bool _=Value.bool _
   congr 1
   rw[hlen,Bool.eq_iff_iff,List.any_eq_true,List.any_eq_true]
   constructor
   ·intro⟨i,a,h⟩
    have a:=List.mem_range.mp a
    rw[List.getD_eq_getElem?_getD,ACd a]at h
    exact⟨_,List.getElem_mem a,h⟩
   ·intro⟨b,J,h⟩
    obtain⟨i,a,rfl⟩:=List.mem_iff_getElem.mp J
    exact⟨i,List.mem_range.mpr a,by rw[List.getD_eq_getElem?_getD,ACd a];exact h⟩
end
inductive Ak where
 |any
 |Ac (d:Pt)
 |row (xs:List Ak) (m:Bool)
 |tab (ks:List Str) (xs:List Ak) (ls:List Str) (m:Bool)
namespace Ak
mutual
def pt:Ak->Pt
 |any=>.tup [.str "any"]
 |Ac d=>.tup [.str "just",d]
 |row xs m=>.tup [.str "row",.lst (D' xs),.bl m]
 |tab ks xs ls m=>.tup [.str "table",.BM ks (D' xs),.lst (ls.map Pt.str),.bl m]
def D':List Ak->List Pt
 |[]=>[]
 |x::r=>pt x::D' r
end
theorem BG:∀xs:List Ak,D' xs=xs.map pt
 |[]=>rfl
 |x::r=>by simp only[D',List.map_cons,BG r]
mutual
def size:Ak->Nat
 |any=>1
 |Ac _=>1
 |row xs _=>1+AI xs
 |tab _ xs _ _=>1+AI xs
def AI:List Ak->Nat
 |[]=>0
 |x::r=>size x+AI r
end
mutual
def deep:Ak->Nat
 |any=>1
 |Ac _=>1
 |row xs _=>1+AW xs
 |tab _ xs _ _=>1+AW xs
def AW:List Ak->Nat
 |[]=>0
 |x::r=>max (deep x) (AW r)
end
mutual
def ok:Ak->Prop
 |any=>True
 |Ac d=>Sm d/\d.doc/\d.size<=10
 |row xs _=>IE xs
 |tab ks xs ls _=>ks.length=xs.length/\ks.Nodup/\(∀k∈ks,CL k=true)/\ks.length<60/\(ls.length<=60/\ls.Nodup/\sortedS ls=true)/\(∀l∈ls,l∉ks)/\IE xs
def IE:List Ak->Prop
 |[]=>True
 |x::r=>ok x/\IE r
end
theorem size_pos (t:Ak):1<=t.size:=by cases t<;>simp only[size]<;>lia
theorem De (t:Ak):1<=t.deep:=by cases t<;>simp only[deep]<;>lia
theorem Cm:∀xs:List Ak,xs.length<=AI xs
 |[]=>Nat.le_refl _
 |x::r=>by have:=Cm r;have:=size_pos x;simp only[List.length_cons,AI];lia
theorem Bh:∀{xs:List Ak} {x:Ak},x∈xs->x.size<=AI xs
 |y::r,x,h=>by
  simp only[AI]
  rcases List.mem_cons.mp h with rfl|h
  ·lia
  ·have:=Bh h;lia
theorem Ao:∀{xs:List Ak} {x:Ak},x∈xs->x.deep<=AW xs
 |y::r,x,h=>by
  simp only[AW]
  rcases List.mem_cons.mp h with rfl|h
  ·lia
  ·have:=Ao h;lia
theorem Gy:∀{xs:List Ak},IE xs->∀x∈xs,ok x
 |y::r,h,x,a=>by
  simp only[IE]at h
  rcases List.mem_cons.mp a with rfl|a
  ·exact h.1
  ·exact Gy h.2 x a
theorem WN:∀{xs:List Ak},(∀x∈xs,ok x)->IE xs
 |[],_=>trivial
 |x::r,h=>⟨h x List.mem_cons_self,WN fun y a=>h y (List.mem_cons_of_mem _ a)⟩
def cnt (c l:Nat) (m:Bool):Bool:=c==l||(m&&decide (l<c))
mutual
def lets:Ak->Pt->Bool
 |any,_=>true
 |Ac d,t=>Pt.Bf d t
 |row xs m,.lst ys=>cnt ys.length xs.length m&&FW xs ys
 |tab ks xs ls m,.BM ns ys=>(ks.all (fun k=>decide (k∈ns))&& !(ls.any fun k=>decide (k∈ns))&&cnt ns.length ks.length m)&&KH ks xs ns ys
 |_,_=>false
def FW:List Ak->List Pt->Bool
 |a::as,y::ys=>lets a y&&FW as ys
 |_,_=>true
def KH:List Str->List Ak->List Str->List Pt->Bool
 |k::ks,x::xs,ns,ys=>(match lk ns ys k with|some y=>lets x y|none=>false)&&KH ks xs ns ys
 |_,_,_,_=>true
end
theorem GZ {ns:List Str} {ys:List Pt}:∀{ks:List Str} {xs:List Ak},KH ks xs ns ys=IJ lets ks xs ns ys
 |[],xs=>by simp[KH,IJ]
 |_::_,[]=>by simp[KH,IJ]
 |k::ks,x::xs=>by simp only[KH,IJ];rw[GZ];try(cases lk ns ys k<;>rfl)
theorem L_:∀{xs:List Ak} {ys:List Pt},FW xs ys=(xs.zip ys).all fun p=>lets p.1 p.2
 |[],_=>by simp[FW]
 |_::_,[]=>by simp[FW]
 |x::xs,y::ys=>by simp only[FW,List.zip_cons_cons,List.all_cons];rw[L_]
def Kp:Ak->Pt->List (Ak×Pt)->Prop
 |row xs _,.lst ys,ps=>ps=xs.zip ys
 |tab ks xs _ _,.BM ns ys,ps=>∃(ss:List Str) (as:List Ak) (bs:List Pt),ss.Perm ks/\ss.map (lk ks xs)=as.map some/\ss.map (lk ns ys)=bs.map some/\ps=as.zip bs
 |_,_,ps=>ps=[]
def hold:Ak->Pt
 |row xs _=>.lst (D' xs)
 |tab ks xs _ _=>.BM ks (D' xs)
 |_=>.lst []
end Ak
section
variable{K:ACh} [BA K]
theorem Val.ak {H:Hp} {v:V} {a:Ak} (h:Val H v a.pt):∃(t:Addr) (w:Str) (rest:List V),v=.ref t/\Bj K H t (.str w::rest)/\
  ((a=.any/\w="any"/\rest=[])∨(∃d u,a=.Ac d/\w="just"/\rest=[u]/\Val H u d)∨(∃xs m u,a=.row xs m/\w="row"/\rest=[u,.bl m]/\Val H u (.lst (Ak.D' xs)))∨∃ks xs ls m u z,a=.tab ks xs ls m/\w="table"/\rest=[u,z,.bl m]/\Val H u (.BM ks (Ak.D' xs))/\Val H z (.lst (ls.map Pt.str))):=by
 cases a with
 |any=>
  obtain⟨t,g,rfl,h,r⟩:=Val.tupI h
  obtain⟨i,j,rfl,b,c⟩:=r.GU
  cases b.Ye
  cases c.Yf
  exact⟨_,_,_,rfl,h,.inl ⟨rfl,rfl,rfl⟩⟩
 |Ac d=>
  obtain⟨t,g,rfl,h,r⟩:=Val.tupI h
  obtain⟨i,j,rfl,b,c⟩:=r.GU
  obtain⟨n,o,rfl,e,f⟩:=c.GU
  cases b.Ye
  cases f.Yf
  exact⟨_,_,_,rfl,h,.inr (.inl ⟨d,_,rfl,rfl,rfl,e⟩)⟩
 |row xs m=>
  obtain⟨t,g,rfl,h,r⟩:=Val.tupI h
  obtain⟨i,j,rfl,b,c⟩:=r.GU
  obtain⟨n,o,rfl,e,f⟩:=c.GU
  obtain⟨p,q,rfl,k,l⟩:=f.GU
  cases b.Ye
  cases k.tY
  cases l.Yf
  exact⟨_,_,_,rfl,h,.inr (.inr (.inl ⟨xs,m,_,rfl,rfl,rfl,e⟩))⟩
 |tab ks xs ls m=>
  obtain⟨t,g,rfl,h,r⟩:=Val.tupI h
  obtain⟨i,j,rfl,b,c⟩:=r.GU
  obtain⟨n,o,rfl,e,f⟩:=c.GU
  obtain⟨p,q,rfl,k,l⟩:=f.GU
  obtain⟨y,A,rfl,s,x⟩:=l.GU
  cases b.Ye
  cases s.tY
  cases x.Yf
  exact⟨_,_,_,rfl,h,.inr (.inr (.inr ⟨ks,xs,ls,m,_,_,rfl,rfl,rfl,e,k⟩))⟩
end
section
variable{K:ACh} [BA K]
theorem Fw {a:Type}:∀{ks:List Str} {xs:List a},ks.length=xs.length->ks.Nodup->ks.map (lk ks xs)=xs.map some:=by
 intro ks
 induction ks with
 |nil=>intro xs l _;cases xs with|nil=>rfl|cons _ _=>simp at l
 |cons k r b=>
  intro xs l nd
  cases xs with
  |nil=>simp at l
  |cons x xs=>
   obtain⟨c,d⟩:=List.nodup_cons.mp nd
   rw[List.map_cons,List.map_cons,DL,if_pos rfl,<-b (by simpa using l) d]
   congr 1
   exact List.map_congr_left fun y e=>by rw[DL,if_neg (fun z=>c (by rw[<-z];exact e))]
theorem Bx {a:Type} {ks ss:List Str} {xs as:List a} (l:ks.length=xs.length) (nd:ks.Nodup) (b:ss.Perm ks) (e:ss.map (lk ks xs)=as.map some):as.Perm xs:=by
 have c:(as.map some).Perm (xs.map some):=by rw[<-e,<-Fw l nd];exact b.map _
 have d:=c.filterMap id
 simpa using d
theorem IK {b:Type} {ks:List Str} {xs:List b} (l:ks.length=xs.length):∀{ss:List Str},(∀k∈ss,k∈ks)->∃as:List b,ss.map (lk ks xs)=as.map some
 |[],_=>⟨[],rfl⟩
 |k::ss,h=>by
  obtain⟨as,e⟩:=IK l (ss:=ss) fun x a=>h x (List.mem_cons_of_mem _ a)
  obtain⟨x,a⟩:=Gw l (h k List.mem_cons_self)
  exact⟨x::as,by rw[List.map_cons,List.map_cons,a,e]⟩
theorem FX {a b:Type} (f:a->b) {k:Str}:∀{ks:List Str} {xs:List a},lk ks (xs.map f) k=(lk ks xs k).map f
 |[],xs=>by simp[lk]
 |_::_,[]=>by simp[lk]
 |y::ks,x::xs=>by
  rw[List.map_cons,DL,DL]
  by_cases e:k=y
  ·rw[if_pos e,if_pos e];rfl
  ·rw[if_neg e,if_neg e];exact FX f
def gM:List (Ak×Pt)->Nat
 |[]=>0
 |p::r=>p.1.size+gM r
theorem Ej {a b:List Ak} (p:a.Perm b):Ak.AI a=Ak.AI b:=by
 induction p with
 |nil=>rfl
 |cons x _ c=>simp only[Ak.AI,c]
 |swap x y l=>simp only[Ak.AI];lia
 |trans _ _ d e=>exact d.trans e
structure Prs (G:Hp) (u v:V) (a:Ak) (t:Pt) (l es fs:List V) (ps:List (Ak×Pt)):Prop where
 le:es.length=l.length
 lf:fs.length=l.length
 lp:ps.length=l.length
 ge:∀(i:Nat) e,es[i]?=some e->∃s,l[i]?=some s/\cH G u s e
 gf:∀(i:Nat) e,fs[i]?=some e->∃s,l[i]?=some s/\cH G v s e
 va:∀(i:Nat) e p,es[i]?=some e->ps[i]?=some p->Val G e p.1.pt
 vb:∀(i:Nat) e p,fs[i]?=some e->ps[i]?=some p->Val G e p.2
 kp:Ak.Kp a t ps
 ok:∀p∈ps,p.1.ok/\p.2.doc/\p.1.size<a.size/\p.2.size<t.size
 sm:gM ps<a.size
end
section
variable{K:ACh} [BA K]
def nw (H a:Hp):Hp:=fun b=>match H b with
 |none=>a b
 |some _=>none
theorem Al {H a:Hp} {b:Addr} (h:H b=none):nw H a b=a b:=by unfold nw;rw[h]
theorem FY {H a:Hp} {b:Addr} {o} (h:H b=some o):nw H a b=none:=by unfold nw;rw[h]
theorem Dh {H a:Hp}:AG (nw H a) a:=fun b o e=>by
 cases h:H b with
 |none=>rw[Al h]at e;exact e
 |some z=>rw[FY h]at e;cases e
structure Bt (o:Option Addr) (H H':Hp):Prop where
 keep:∀b e,o≠some b->H b=some e->H' b=some e
 Cq:∀b,H' b=none->H b=none
theorem Bt.refl {o:Option Addr} {H:Hp}:Bt o H H:=⟨fun _ _ _ e=>e,fun _ h=>h⟩
theorem Bt.of {o:Option Addr} {H a:Hp} (s:AG H a):Bt o H a:=⟨fun b e _ h=>s b e h,fun b h=>s.free h⟩
theorem Bt.same {H a:Hp} (s:Bt none H a):AG H a:=fun b e h=>s.keep b e (fun z=>nomatch z) h
theorem Bt.trans {o:Option Addr} {H d H2:Hp} (a:Bt o H d) (b:Bt o d H2):Bt o H H2:=⟨fun c e n h=>b.keep c e n (a.keep c e n h),fun c h=>a.Cq c (b.Cq c h)⟩
theorem DF {H:Hp} {p b:Addr} {o:HO} (h:upd H p o b=none):b≠p/\H b=none:=by
 by_cases e:b=p
 ·subst e;rw[AE]at h;cases h
 ·rw[AJ e]at h;exact⟨e,h⟩
theorem Bt.put {l:Addr} {H d:Hp} {o:HO} (a:Bt (some l) H d):Bt (some l) H (upd d l o):=⟨fun c e n h=>by rw[AJ (fun z=>n (by rw[z]))];exact a.keep c e n h,fun b h=>a.Cq b (DF h).2⟩
theorem Bt.new {o:Option Addr} {p:Addr} {H f:Hp} {e:HO} (a:Bt o H f) (h:H p=none):Bt o H (upd f p e):=⟨fun c g n d=>by rw[AJ (fun z=>by rw[z,h]at d;cases d)];exact a.keep c g n d,fun b h=>a.Cq b (DF h).2⟩
def Du (l:Addr) (H:Hp):Hp:=fun b=>if b=l then none else H b
theorem EA {l b:Addr} {H:Hp} (h:b≠l):Du l H b=H b:=by unfold Du;rw[if_neg h]
theorem CG {l:Addr} {H:Hp}:AG (Du l H) H:=fun b o e=>by
 unfold Du at e
 by_cases h:b=l
 ·rw[if_pos h]at e;cases e
 ·rw[if_neg h]at e;exact e
theorem Bt.Du {l:Addr} {H a:Hp} (s:Bt (some l) H a):AG (Du l H) (Du l a):=fun b o e=>by
 by_cases h:b=l
 ·unfold L2.Du at e;rw[if_pos h]at e;cases e
 ·rw[EA h]at e⊢;exact s.keep _ _ (fun z=>h (ACf z).symm) e
theorem BQ {H a H2 c:Hp} (d:∀b,a b=none->H b=none) (s:∀b o,a b=none->H2 b=some o->c b=some o):AG (nw a H2) (nw H c):=fun b o e=>by
 cases h:a b with
 |none=>rw[Al h]at e;rw[Al (d b h)];exact s b o h e
 |some z=>rw[FY h]at e;cases e
theorem Aa.snoc {H:Hp} {vs:List V} {ts:List Pt} {v:V} {t:Pt} (h:Aa H vs ts) (g:Val H v t):Aa H (vs++[v]) (ts++[t]):=h.append (.cons g .nil)
section
variable{J:It} {te:TE} {fs:List Nat} {σ:St} {H:Hp} {Q:VK}
theorem Cr (o:Option Addr) (n:Nat) (item:Nat->V) (a:Nat->List Pt->Hp->Prop) (S:n<=1000) (F:∀D,H D=none->a 0 [] (upd H D (.lst [])))
  (G:∀i us H2 D ws,Bt o H H2->H D=none->a i us H2->a i us (upd H2 D (.lst ws))) (hl:∀l,o=some l->H l≠none)
  (x:∀i us H2,i<n->Bt o H H2->a i us H2->J.go i H2) (I:∀i us H2 v p,i<n->Bt o H H2->a i us H2->J.TN i H2 v p->v=item i/\p=H2) (A:∀us H2,Bt o H H2->a n us H2->J.stop n H2)
  (L:∀i us H2 (R:VK),i<n->Bt o H H2->a i us H2->us.length=i->(∀w u f,Bt o H2 f->Val (nw H2 f) w u->a (i+1) (us++[u]) f->R w f)->te (some (item i)::DJ σ fs) H2 R)
  (M:∀D H2 ws us,H D=none->Bt o H H2->H2 D=some (.lst ws)->us.length=n->Aa (nw H H2) ws us->a n us H2->Q (.ref D) H2):GX J Qh te fs σ H Q:=by
 refine SO n item (fun D i H2=>H D=none/\Bt o H H2/\∃ws us,H2 D=some (.lst ws)/\us.length=i/\Aa (nw (upd H D (.lst [])) H2) ws us/\a i us H2)
  (fun D c=>⟨c,.new .refl c,[],[],AE,rfl,.nil,F D c⟩) (fun D i H2 g ⟨_,s,ws,us,_,_,_,d⟩=>x i us H2 g s d) (fun D i H2 v p g ⟨_,s,ws,us,_,_,_,d⟩ y=>I i us H2 v p g s d y) (fun D H2 ⟨_,s,ws,us,_,_,_,d⟩=>A us H2 s d) (fun D i H2 _ g ⟨c,s,ws,us,j,q,r,d⟩=>?_) (fun D H2 _ ⟨c,s,ws,us,j,q,r,d⟩=>?_)
 ·refine L i us H2 _ g s d q fun w u f t N B=>?_
  have O:o≠some D:=fun z=>hl D z c
  have P:=t.keep D _ O j
  have T:=r.length
  have E:∀b,upd H D (.lst []) b=none->b≠D/\H b=none:=fun b h=>DF h
  refine⟨ws,P,Nat.lt_of_le_of_lt (by lia) (BN (Nat.le_refl 1000)),c,(s.trans t).new c,ws++[w],us++[u],AE,by simp[q],Aa.snoc (r.up (BQ (fun b h=>h) fun b e k C=>?_)) (N.up (BQ (fun b h=>?_) fun b e k C=>?_)),G _ _ _ _ _ (s.trans t) c B⟩
  ·have m:=(E b k).1
   rw[AJ m]
   refine t.keep b e (fun z=>?_) C
   exact hl b z (E b k).2
  ·have m:b≠D:=fun z=>by rw[z,j]at h;cases h
   rw[AJ m]
   exact s.Cq b h
  ·have m:b≠D:=fun z=>by rw[z,j]at k;cases k
   rw[AJ m]
   exact C
 ·exact M D H2 ws us c s j q (r.up (BQ (fun b h=>(DF h).2) fun b e _ h=>h)) d
theorem Fx (o:Option Addr) (n:Nat) (item:Nat->V) (ks:List Str) (c:Nat->List Pt->Hp->Prop) (hn:n<=1000) (h0:∀D,H D=none->c 0 [] (upd H D (.lst [])))
  (U:∀i us H2 D e,Bt o H H2->(H D=none)->c i us H2->c i us (upd H2 D e)) (hl:∀l,o=some l->H l≠none)
  (I:∀i us H2,i<n->Bt o H H2->c i us H2->J.go i H2) (hy:∀i us H2 v C,i<n->Bt o H H2->c i us H2->J.TN i H2 v C->v=item i/\C=H2) (L:∀us H2,Bt o H H2->c n us H2->J.stop n H2)
  (he:∀i us H2 (R:VK),i<n->Bt o H H2->c i us H2->us.length=i->(∀w u k t,Bt o H2 k->Val (nw H2 k) w u->c (i+1) (us++[u]) k->k t=none->R (.ref t) (upd k t (.tup [.str (ks.getD i ""),w])))->te (some (item i)::DJ σ fs) H2 R)
  (hQ:∀D H2 (ts:List Addr) ws us,H D=none->Bt o H H2->H2 D=some (.lst (ts.map V.ref))->ts.length=n->us.length=n->(∀(j:Nat) t w,ts[j]?=some t->ws[j]?=some w->H2 t=some (.tup [.str (ks.getD j ""),w])/\H t=none)->Aa (nw H H2) ws us->c n us H2->Q (.ref D) H2):GX J Qh te fs σ H Q:=by
 refine SO n item (fun D i H2=>H D=none/\Bt o H H2/\∃(ts:List Addr) (ws:List V) (us:List Pt),H2 D=some (.lst (ts.map V.ref))/\ts.length=i/\us.length=i/\(∀(j:Nat) t w,ts[j]?=some t->ws[j]?=some w->H2 t=some (.tup [.str (ks.getD j ""),w])/\H t=none)/\Aa (nw (upd H D (.lst [])) H2) ws us/\c i us H2)
  (fun D d=>⟨d,.new .refl d,[],[],[],AE,rfl,rfl,(fun j t w h=>by simp at h),.nil,h0 D d⟩) (fun D i H2 r ⟨_,s,ts,ws,us,_,_,_,_,_,g⟩=>I i us H2 r s g) (fun D i H2 v C r ⟨_,s,ts,ws,us,_,_,_,_,_,g⟩ y=>hy i us H2 v C r s g y) (fun D H2 ⟨_,s,ts,ws,us,_,_,_,_,_,g⟩=>L us H2 s g) (fun D i H2 _ r ⟨d,s,ts,ws,us,x,lt,E,M,F,g⟩=>?_) (fun D H2 _ ⟨d,s,ts,ws,us,x,lt,E,M,F,g⟩=>?_)
 ·refine he i us H2 _ r s g E fun w u k t m vw N p=>?_
  have oD:o≠some D:=fun z=>hl D z d
  have O:=m.keep D _ oD x
  have X:t≠D:=fun z=>by rw[z,O]at p;cases p
  have d4:upd k t (.tup [.str (ks.getD i ""),w]) D=some (.lst (ts.map V.ref)):=by rw[AJ (Ne.symm X)];exact O
  have lw:=F.length
  have G:H t=none:=(s.trans m).Cq t p
  have Y:∀b,upd H D (.lst []) b=none->b≠D/\H b=none:=fun b h=>DF h
  refine⟨ts.map V.ref,d4,Nat.lt_of_le_of_lt (by rw[List.length_map];lia) (BN (Nat.le_refl 1000)),d,((s.trans m).new G).new d,ts++[t],ws++[w],us++[u],by rw[AE,List.map_append];rfl,by simp[lt],by simp[E],fun j q Z a f=>?_,Aa.snoc (F.up (BQ (fun b h=>h) fun b e a f=>?_)) (vw.up (BQ (fun b h=>?_) fun b e a f=>?_)),U _ _ _ _ _ ((s.trans m).new G) d (U _ _ _ _ _ (s.trans m) G N)⟩
  ·by_cases hj:j<ts.length
   ·rw[List.getElem?_append_left hj]at a
    rw[List.getElem?_append_left (by lia)]at f
    obtain⟨g1,g2⟩:=M j q Z a f
    have A:=m.keep q _ (fun z=>hl q z g2) g1
    have n1:q≠t:=fun z=>by rw[z,p]at A;cases A
    have n2:q≠D:=fun z=>by rw[z,O]at A;cases A
    exact⟨by rw[AJ n2,AJ n1];exact A,g2⟩
   ·have P:=(ACe a).1
    rw[List.length_append,List.length_singleton]at P
    have ej:j=i:=by lia
    subst ej
    rw[List.getElem?_append_right (by lia),lt,Nat.sub_self]at a
    have e1:t=q:=by simpa using a
    subst e1
    rw[List.getElem?_append_right (by lia),show j-ws.length=0 by lia]at f
    have e2:w=Z:=by simpa using f
    subst e2
    exact⟨by rw[AJ X,AE],G⟩
  ·have B:=(Y b a).1
   have hb:=(Y b a).2
   have S:=m.keep b e (fun z=>hl b z hb) f
   have T:b≠t:=fun z=>by rw[z,p]at S;cases S
   rw[AJ B,AJ T]
   exact S
  ·have B:b≠D:=fun z=>by rw[z,x]at h;cases h
   rw[AJ B]
   exact s.Cq b h
  ·have B:b≠D:=fun z=>by rw[z,x]at a;cases a
   have T:b≠t:=fun z=>by rw[z,p]at f;cases f
   rw[AJ B,AJ T]
   exact f
 ·exact hQ D H2 ts ws us d s x lt E M (F.up (BQ (fun b h=>(DF h).2) fun b e _ h=>h)) g
end
mutual
def Pt.nice:Pt->Prop
 | .int _| .str _| .bl _=>True
 | .lst xs| .tup xs=>xs.length<=900/\Pt.DK xs
 | .BM ks xs=>ks.length=xs.length/\ks.Nodup/\ks.length<=900/\Pt.DK xs
def Pt.DK:List Pt->Prop
 |[]=>True
 |x::r=>Pt.nice x/\Pt.DK r
end
theorem Pt.Fy:∀{xs:List Pt},Pt.DK xs->∀x∈xs,x.nice
 |y::r,h,x,a=>by
  simp only[Pt.DK]at h
  rcases List.mem_cons.mp a with rfl|a
  ·exact h.1
  ·exact Pt.Fy h.2 x a
theorem Pt.Ou:∀{xs:List Pt},(∀x∈xs,x.nice)->Pt.DK xs
 |[],_=>trivial
 |x::r,h=>⟨h x List.mem_cons_self,Pt.Ou fun y a=>h y (List.mem_cons_of_mem _ a)⟩
mutual
theorem Pt.Gz:∀t:Pt,t.doc->t.size<=900->t.nice
 | .int _,_,_=>trivial
 | .str _,_,_=>trivial
 | .bl _,d,_=>by simp[Pt.doc]at d
 | .tup _,d,_=>by simp[Pt.doc]at d
 | .lst xs,d,z=>by
  simp only[Pt.doc]at d
  simp only[Pt.size]at z
  have:=Pt.Cm xs
  simp only[Pt.nice]
  exact⟨by lia,Pt.IL xs d (by lia)⟩
 | .BM a xs,d,z=>by
  simp only[Pt.doc]at d
  simp only[Pt.size]at z
  simp only[Pt.nice]
  exact⟨d.1,d.2.1,by lia,Pt.IL xs d.2.2.2.2 (by lia)⟩
theorem Pt.IL:∀xs:List Pt,Pt.CU xs->Pt.AI xs<=900->Pt.DK xs
 |[],_,_=>trivial
 |x::r,d,z=>by
  simp only[Pt.CU]at d
  simp only[Pt.AI]at z
  exact⟨Pt.Gz x d.1 (by lia),Pt.IL r d.2 (by lia)⟩
end
def Bz (ks:List Str) (ws:List V):List (Key×V):=(ks.zip ws).map fun p=>(Sum.inr p.1,p.2)
theorem Be {ks:List Str} {ws:List V} (l:ks.length=ws.length):(Bz ks ws).map (·.1)=ks.map Sum.inr:=by
 unfold Bz
 rw[List.map_map]
 have:(ks.zip ws).map Prod.fst=ks:=List.map_fst_zip (by lia)
 conv=>rhs;rw[<-this,List.map_map]
 rfl
theorem CY {ks:List Str} {ws:List V} (l:ks.length=ws.length):(Bz ks ws).map (·.2)=ws:=by
 unfold Bz
 rw[List.map_map]
 have:(ks.zip ws).map Prod.snd=ws:=List.map_snd_zip (by lia)
 conv=>rhs;rw[<-this]
 rfl
theorem DA {ks:List Str} {ws:List V} (l:ks.length=ws.length):(Bz ks ws).length=ks.length:=by
 have:=congrArg List.length (Be l)
 simpa using this
theorem JT {ks:List Str} {ws:List V} {j:Nat} {k:Key} {v:V} (h:(Bz ks ws)[j]?=some (k,v)):∃a,ks[j]?=some a/\ws[j]?=some v/\k=Sum.inr a:=by
 unfold Bz at h
 rw[List.getElem?_map]at h
 cases e:(ks.zip ws)[j]? with
 |none=>rw[e]at h;cases h
 |some p=>
  obtain⟨x,y⟩:=p
  rw[e]at h
  have h:=ACf h
  rw[List.getElem?_zip_eq_some]at e
  have b:(Sum.inr x:Key)=k:=congrArg Prod.fst h
  have c:y=v:=congrArg Prod.snd h
  subst b c
  exact⟨x,e.1,e.2,rfl⟩
theorem ES {ks:List Str} {ws:List V} (l:ks.length=ws.length) (nd:ks.Nodup):CT [] (Bz ks ws)=Bz ks ws:=Ek _ _ (by
 have:((Bz ks ws).map (·.1)).Nodup:=by
  rw[Be l]
  exact List.Pairwise.map _ (fun a b h z=>h (Sum.inr.inj z)) nd
 simpa using this)
theorem Qz {kvs:List (Key×V)} {ks:List Str} (c:kvs.map (·.1)=ks.map Sum.inr) {i:Nat} {k:Key} {v:V} (e:kvs[i]?=some (k,v)):i<ks.length/\k=Sum.inr (ks.getD i ""):=by
 have d:kvs.length=ks.length:=by have:=congrArg List.length c;simpa using this
 have a:=(ACe e).1
 rw[d]at a
 refine⟨a,?_⟩
 have b:=congrArg (fun z=>z[i]?) c
 simp only[List.getElem?_map,e,ACd a]at b
 have b:k=Sum.inr ks[i]:=by simpa using b
 rw[b,List.getD_eq_getElem?_getD,ACd a]
 rfl
theorem NA {H:Hp}:∀{kvs:List (Key×V)} {ks:List Str} {ts:List Pt},kvs.map (·.1)=ks.map Sum.inr->Aa H (kvs.map (·.2)) ts->ks.Nodup->∀{i:Nat},i<ks.length->∃v t,CS kvs (Sum.inr (ks.getD i ""))=some v/\ts[i]?=some t/\Val H v t
 |[],[],_,_,_,_,i,h=>by simp at h
 |[],_::_,_,h,_,_,_,_=>by simp at h
 |_::_,[],_,h,_,_,_,_=>by simp at h
 |(y,v)::kvs,x::ks,_,h,.cons b r,nd,0,c=>by
  simp only[List.map_cons,List.cons.injEq]at h
  obtain⟨e,h⟩:=h
  subst e
  exact⟨v,_,DV rfl,by simp,b⟩
 |(y,v)::kvs,x::ks,_,h,.cons b r,nd,i+1,c=>by
  simp only[List.map_cons,List.cons.injEq]at h
  obtain⟨e,h⟩:=h
  subst e
  obtain⟨d,f⟩:=List.nodup_cons.mp nd
  have a:i<ks.length:=by simpa using c
  obtain⟨w,t,g,j,k⟩:=NA h r f a
  have l:(x::ks).getD (i+1) ""=ks.getD i "":=by simp
  rw[l]
  refine⟨w,t,?_,by simpa using j,k⟩
  rw[DW (fun z=>d ?_)]
  ·exact g
  ·have z:=Sum.inr.inj z
   rw[z,List.getD_eq_getElem?_getD,ACd a]
   exact List.getElem_mem a
mutual
def Pt.wide:Pt->Nat
 | .int _| .str _| .bl _=>0
 | .lst xs| .tup xs=>Pt.CH xs
 | .BM ks xs=>max ks.length (Pt.CH xs)
def Pt.CH:List Pt->Nat
 |[]=>0
 |x::r=>max (Pt.wide x) (Pt.CH r)
end
theorem Pt.CC:∀{xs:List Pt} {x:Pt},x∈xs->x.wide<=Pt.CH xs
 |y::r,x,h=>by
  simp only[Pt.CH]
  rcases List.mem_cons.mp h with rfl|h
  ·lia
  ·have:=Pt.CC h;lia
theorem Pt.DM (a b:List Pt):Pt.CH (a++b)=max (Pt.CH a) (Pt.CH b):=by
 induction a with
 |nil=>simp[Pt.CH]
 |cons x r c=>simp only[List.cons_append,Pt.CH,c];lia
theorem ET {n:Nat}:∀{us:List Pt},(∀u∈us,u.wide<=n)->Pt.CH us<=n
 |[],_=>by simp[Pt.CH]
 |x::r,h=>by
  have b:=h x List.mem_cons_self
  have c:=ET (us:=r) fun y a=>h y (List.mem_cons_of_mem _ a)
  simp only[Pt.CH];lia
mutual
theorem Pt.Ce:∀t:Pt,t.doc->t.wide<=t.size
 | .int _,_=>by simp[Pt.wide]
 | .str _,_=>by simp[Pt.wide]
 | .bl _,_=>by simp[Pt.wide]
 | .tup _,d=>by simp[Pt.doc]at d
 | .lst xs,d=>by
  simp only[Pt.doc]at d
  have:=Pt.Em xs d
  simp only[Pt.wide,Pt.size];lia
 | .BM a xs,d=>by
  simp only[Pt.doc]at d
  have:=Pt.Em xs d.2.2.2.2
  have:=Pt.Cm xs
  simp only[Pt.wide,Pt.size];lia
theorem Pt.Em:∀xs:List Pt,Pt.CU xs->Pt.CH xs<=Pt.AI xs
 |[],_=>by simp[Pt.CH]
 |x::r,d=>by
  simp only[Pt.CU]at d
  have:=Pt.Ce x d.1
  have:=Pt.Em r d.2
  simp only[Pt.CH,Pt.AI];lia
end
structure UE (H:Hp) (n:Addr) (ys:List Str):Prop where
 at_:H n=some (.lst (ys.map V.str))
 len:ys.length=4
 nd:ys.Nodup
 nb:∀y∈ys,CL y=true
theorem UE.up {H a:Hp} {n:Addr} {ys:List Str} (h:UE H n ys) (s:AG H a):UE a n ys:=⟨s _ _ h.at_,h.len,h.nd,h.nb⟩
theorem UE.but {H a:Hp} {n l:Addr} {ys:List Str} (h:UE H n ys) (s:Bt (some l) H a) (nl:n≠l):UE a n ys:=⟨s.keep _ _ (fun z=>nl (ACf z).symm) h.at_,h.len,h.nd,h.nb⟩
def KI:Sp:=fun b H Q _=>∃c:Int,b=[.int c]/\∀(p:Addr) (d:List Str) (a:Hp),AG H a->H p=none->UE a p d->Q (.ref p) a
structure Small (H H':Hp) (v:V) (t:Pt):Prop where
 val:Val (nw H H') v t
 sm:Sm t
 doc:t.doc
 size:t.size<=4
 deep:t.deep<=2
def FZ:Sp:=fun b H Q _=>∃(c:Int) (k:Nat) (n:Addr) (d:List Str),b=[.int c,.int (k:Int),.ref n]/\k<=1000/\UE H n d/\∀(v:V) (t:Pt) (a:Hp),AG H a->Small H a v t->Q v a
def Cc (n:Nat):Sp:=fun b H Q _=>∃(v:V) (t:Pt),b=[v]/\Val H v t/\t.nice/\t.deep<=n/\∀(w:V) (a:Hp),AG H a->Val (nw H a) w t->Q w a
def KJ (n:Nat):Sp:=fun g H Q _=>∃(l:Addr) (d:Nat) (f:Addr) (c:List Int) (h:List Str),g=[.ref l,.int (d:Int),.ref f]/\d+4<=n/\H l=some (.lst (c.map V.int))/\c.length<=100/\f≠l/\UE H f h/\
 ∀(v:V) (a:Ak) (b:List Int) (e:Hp),Bt (some l) H e->e l=some (.lst (b.map V.int))->b.length<=c.length->Val (nw H e) v a.pt->a.ok->a.size<=1+4*(c.length-b.length)->a.deep<=d+1->Q v e
def Ov (n:Nat):Sp:=fun f H Q _=>∃(w:V) (a:Ak) (l d:Addr) (e:List Int) (g:List Str),f=[w,.ref l,.ref d]/\Val (Du l H) w a.pt/\a.ok/\a.deep+8<=n/\a.size<=100/\H l=some (.lst (e.map V.int))/\e.length<=100/\d≠l/\UE H d g/\
 ∀(v:V) (t:Pt) (b:List Int) (c:Hp),Bt (some l) H c->c l=some (.lst (b.map V.int))->b.length<=e.length->Val (nw H c) v t->t.doc->t.size<=10*a.size->t.deep<=a.deep+2->t.wide<=61->Q v c
def ov (G H a:Hp):Hp:=fun b=>match G b with
 |some o=>some o
 |none=>nw H a b
theorem NB {G H a:Hp}:AG G (ov G H a):=fun b o e=>by unfold ov;rw[e]
def KL (n:Nat):Sp:=fun f H Q _=>∃(G:Hp) (v:V) (t:Pt) (c:Int) (d:Nat) (e:Addr) (g:List Str) (B:Nat),f=[v,.int c,.int (d:Int),.ref e]/\AG G H/\Val G v t/\t.doc/\t.size<=800/\t.deep<=40/\12<=d+n/\d<=5/\UE H e g/\10<=B/\B<=62/\t.wide<=B/\
 ∀(w:V) (a:Pt) (b:Hp),AG H b->Val (ov G H b) w a->a.doc->a.size<=t.size+4->a.deep<=t.deep+2->a.wide<=B+1->Q w b
def NC:Sp:=fun f H Q _=>∃(v:V) (a:Ak) (c:Int) (e:Addr) (g:List Str),f=[v,.int c,.ref e]/\Val H v a.pt/\a.ok/\a.size<=57/\a.deep<=5/\UE H e g/\
 ∀(w:V) (b:Ak) (d:Hp),AG H d->Val d w b.pt->b.ok->b.size<=70->b.deep<=15->Q w d
end
section
variable{K:ACh} [BA K]
theorem Ih {a:List (Key×V)} {ns:List Str} (b:a.map (·.1)=ns.map Sum.inr) (k:Str):(CS a (Sum.inr k)).isSome=decide (k∈ns):=by
 rw[Bool.eq_iff_iff,decide_eq_true_iff]
 have c:(Sum.inr k:Key)∈a.map (·.1)↔k∈ns:=by
  rw[b]
  constructor
  ·intro h
   obtain⟨y,d,e⟩:=List.mem_map.mp h
   rw[<-Sum.inr.inj e];exact d
  ·exact fun h=>List.mem_map_of_mem h
 rw[<-c]
 cases e:CS a (Sum.inr k:Key)with
 |none=>simp only[Option.isSome_none];exact⟨(fun h=>nomatch h),fun h=>absurd h (VN e)⟩
 |some z=>simp only[Option.isSome_some];exact⟨fun _=>Ru e,fun _=>trivial⟩
theorem EU (ns:List Str) (p:Str->Bool):((List.range ns.length).filter fun i=>p (ns.getD i "")).map (fun i=>V.str (ns.getD i ""))=(ns.filter p).map V.str:=by
 induction ns with
 |nil=>rfl
 |cons x r a=>
  rw[List.length_cons,List.range_succ_eq_map,List.filter_cons,List.filter_cons,List.filter_map,List.getD_cons_zero]
  have e:((fun i=>p ((x::r).getD i ""))∘Nat.succ)=fun i=>p (r.getD i ""):=by funext i;simp
  have b:((fun i=>V.str ((x::r).getD i ""))∘Nat.succ)=fun i=>V.str (r.getD i ""):=by funext i;simp
  cases p x with
  |true=>simp only[if_true,List.map_cons,List.map_map];rw[e,b,a];rfl
  |false=>simp only[Bool.false_eq_true,if_false,List.map_map];rw[e,b,a]
theorem SR {b:Type} {ps:List b} {f:b->Bool}:∀{vs:List V},vs.length=ps.length->(∀(i:Nat) v,vs[i]?=some v->∃p,ps[i]?=some p/\v=.bl (f p))->vs=(ps.map f).map V.bl:=by
 intro vs l h
 refine List.ext_getElem (by simp[l]) fun i c g=>?_
 obtain⟨p,a,d⟩:=h i _ (ACd c)
 have e:i<ps.length:=by lia
 rw[ACd e]at a
 have a:=ACf a
 rw[d,<-a]
 simp
theorem L' (p:Str->Bool):∀l:List Str,l.length=(l.filter fun x=> !p x).length+(l.filter p).length
 |[]=>rfl
 |x::r=>by
  have:=L' p r
  cases h:p x<;>simp[List.filter_cons,h]<;>lia
theorem cntK {ks ns:List Str} (nk:ks.Nodup) (a:ns.Nodup):ns.length=(ns.filter fun n=> !decide (n∈ks)).length+(ks.filter fun k=>decide (k∈ns)).length:=by
 have b:(ns.filter fun n=>decide (n∈ks)).Perm (ks.filter fun k=>decide (k∈ns)):=by
  refine(List.perm_ext_iff_of_nodup (a.sublist List.filter_sublist) (nk.sublist List.filter_sublist)).mpr fun x=>?_
  simp only[List.mem_filter,decide_eq_true_eq]
  exact And.comm
 have:=L' (fun n=>decide (n∈ks)) ns
 have e:=b.length_eq
 lia
theorem Ow {ks ns:List Str}:ks.all (fun k=>decide (k∈ns))=decide ((ks.filter fun k=>decide (k∈ns)).length=ks.length):=by
 rw[Bool.eq_iff_iff,decide_eq_true_iff,List.length_filter_eq_length_iff,List.all_eq_true]
theorem WO {ks ns ls:List Str} (m:Bool) (nk:ks.Nodup) (i:ns.Nodup) (dj:∀l∈ls,l∉ks):
  (ks.all (fun k=>decide (k∈ns))&& !(ls.any fun k=>decide (k∈ns))&&Ak.cnt ns.length ks.length m)=
  (!(decide (((ns.length:Nat):Int)-(((ns.filter fun n=> !decide (n∈ks)).length:Nat):Int)<((ks.length:Nat):Int)))&&(m||(ns.filter fun n=> !decide (n∈ks)).isEmpty)&&((ns.filter fun n=> !decide (n∈ks)).filter fun n=>decide (n∈ls)).isEmpty):=by
 have c:=cntK nk i
 have q:(ks.filter fun k=>decide (k∈ns)).length<=ks.length:=List.length_filter_le _ _
 rw[Ow]
 by_cases h:(ks.filter fun k=>decide (k∈ns)).length=ks.length
 ·have d:¬((ns.length:Nat):Int)-(((ns.filter fun n=> !decide (n∈ks)).length:Nat):Int)<((ks.length:Nat):Int):=by lia
  rw[decide_eq_true h,decide_eq_false d,Bool.true_and,Bool.not_false,Bool.true_and]
  have j:Ak.cnt ns.length ks.length m=(m||(ns.filter fun n=> !decide (n∈ks)).isEmpty):=by
   cases g:(ns.filter fun n=> !decide (n∈ks))with
   |nil=>
    rw[g,List.length_nil]at c
    have:ns.length=ks.length:=by lia
    simp[Ak.cnt,this]
   |cons a r=>
    rw[g,List.length_cons]at c
    have:ks.length<ns.length:=by lia
    have e:(ns.length==ks.length)=false:=by simp;lia
    simp[Ak.cnt,this,e]
  have o:(!(ls.any fun k=>decide (k∈ns)))=((ns.filter fun n=> !decide (n∈ks)).filter fun n=>decide (n∈ls)).isEmpty:=by
   rw[Bool.eq_iff_iff,List.isEmpty_iff,List.filter_eq_nil_iff,Bool.not_eq_true',<-Bool.not_eq_true,List.any_eq_true]
   constructor
   ·intro h a p b
    exact h ⟨a,of_decide_eq_true b,decide_eq_true (List.mem_filter.mp p).1⟩
   ·intro h ⟨l,b,f⟩
    have f:=of_decide_eq_true f
    exact h l (List.mem_filter.mpr ⟨f,by simpa using dj l b⟩) (decide_eq_true b)
  rw[j,o,Bool.and_comm]
 ·have d:((ns.length:Nat):Int)-(((ns.filter fun n=> !decide (n∈ks)).length:Nat):Int)<((ks.length:Nat):Int):=by lia
  rw[decide_eq_false h,decide_eq_true d]
  simp
end
section
variable{X:Cx}
theorem G_ {ss:List Str}:∀{us:List Value},Vals (ss.map V.str) us->StrsAre us ss:=by
 induction ss with
 |nil=>intro us h;cases h;exact .nil
 |cons x r a=>
  intro us h
  cases h with
  |cons b c=>
   obtain⟨t,rfl⟩:=b
   exact .cons x t (a c)
inductive KN (K:ACh) (xs:List V) (H:Hp) (Q:VK):Prop
 |mk (d:Addr) (ss:List Str) (c:xs=[.ref d]) (e:Ah K H d (ss.map V.str)) (f:ss.length<64) (g:∀(p:Addr) (a:List Str) (b:Hp),H p=none->AG H b->b p=some (.lst (a.map V.str))->a.Perm ss->sortedS a=true->Q (.ref p) b):KN K xs H Q
theorem En (S:X.calm=true):BJ X (.builtin "sorted") (KN X.K):=by
 intro pins s T H U W Q I r h
 obtain⟨d,y,rfl,J,n,q⟩:=h
 obtain⟨u,rfl,L⟩:=vals1 r
 cases L
 obtain⟨a,z,M,l⟩:=I.list J
 obtain⟨Y,p,j,Z,k⟩:=id M.isList
 have A:a.length=y.length:=by rw[<-z.length,List.length_map]
 have l:a.length<=sizeLine:=Nat.le_of_lt (BN (by lia))
 have t:StrsAre a y:=G_ z
 refine Calls.call_function_entry kind_sorted plain_sorted entry_sorted (args_sorted1 _) ?_
 unfold Builtin.«sorted»
 refine wpAny_bind (m:=checkCount "sorted" 1 1 _) (wpAny_pure (wpAny_bind (wpAny_collect_seq d (.inl rfl) p j k (fun c keep=>?_) (by rw[List.size_toArray];exact l))))
 rw[List.toList_toArray]
 refine wpAny_bind (wpAny_newList ?_ l)
 have f:(c.push {cls:=.type "list",data:=.seq a.toArray}).get? c.objs.size=some (seqObj "list" a.toArray 0):=Heap.get?_push_size _ rfl
 refine wpAny_bind (wpAny_holding (wpAny_call_entry slot_list_sort ⟨_,f,rfl⟩ entry_list_sort (list_sort_treeK strKind_oneLt f t.keysOf (fun B C rest e=>keyKind_strs (by rw[<-e];exact t)) (by rw[A];exact n) fun g a1 a2=>⟨_,rfl,?_⟩) (args_list_sort _)))
 obtain⟨i,N,D,O⟩:=sorted_out_str t a1 a2
 obtain⟨P,R⟩:=sortedHeap_at (out:=(arrOf g).map (·.2)) f
 refine wpAny_pure ⟨_,rfl,?_⟩
 have v:(c.push {cls:=.type "list",data:=.seq a.toArray}).objs.size=c.objs.size+1:=size_push' ..
 have E:=I.kept (t':=s.toks) keep
 have k2:∀b o,c.get? b=some o->(sortedHeap (c.push {cls:=.type "list",data:=.seq a.toArray}) c.objs.size a ((arrOf g).map (·.2))).get? b=some o:=fun b o e=>by
  have F:b<c.objs.size:=Heap.lt_size e
  rw[sortedHeap_old (Nat.ne_of_lt F) (by rw[v];exact Nat.lt_succ_of_lt F)]
  exact Heap.get?_push_of_some _ e
 have x:i.length<=sizeLine:=by
  rw[D.length_eq,<-A]
  exact l
 have new:Ay X.prog X.w (upd H c.objs.size (.lst (i.map V.str))) (sortedHeap (c.push {cls:=.type "list",data:=.seq a.toArray}) c.objs.size a ((arrOf g).map (·.2))) c.objs.size (.lst (i.map V.str)):=
  ⟨by rw[List.length_map];exact x,((arrOf g).map (·.2)).toList,P,Fu N,by rw[Array.toArray_toList];exact R⟩
 have G:H c.objs.size=none:=E.fresh
 exact⟨.ref c.objs.size,_,E.laid (t':=s.toks) k2 (Nat.le_refl _) new,rfl,q _ i _ G (AG.new G) AE D O⟩
inductive WQ (xs:List V) (H:Hp) (Q:VK):Prop
 |mk (d:Addr) (a:List (Key×V)) (ss:List Str) (b:xs=[.ref d]) (c:Rd H d (.dK a)) (e:a.map (·.1)=ss.map Sum.inr) (f:∀(p:Addr),H p=none->Q (.ref p) (upd H p (.lst (ss.map V.str)))):WQ xs H Q
theorem KO (m:X.calm=true):BJ X (.type "list") WQ:=by
 intro pins s J H K L Q I r h
 obtain⟨d,n,g,rfl,hd,o,q⟩:=h
 obtain⟨u,rfl,p⟩:=vals1 r
 cases p
 obtain⟨z,t,b,c,x⟩:=EI I.BO hd
 have i:b.length=n.length:=c.length.symm
 have f:b.map (·.1)=g.map Sum.inr:=by rw[<-o];exact(KV.keys c).symm
 obtain⟨ep,k⟩:=x.dictAt
 have l:b.length<=sizeLine:=by rw[i];exact z
 refine PySem.W.kdl_call (PySem.W.kdl_dict (knd:=Am X.prog X.w) (kvs:=b) (ep:=ep) t) (I.ok.hd m) k l fun y A a B C D items=>?_
 have E:a.toList.length=b.length:=by rw[Array.length_toList];exact items.1
 have F:StrsAre a.toList g:=Lr (P:=X.prog) (w:=X.w) f E fun j v e=>items.2 j v (by rw[<-Array.getElem?_toList];exact e)
 have G:g.length<=sizeLine:=by
  have:=congrArg List.length f
  rw[List.length_map,List.length_map]at this
  rw[<-this];exact l
 exact⟨.ref s.heap.objs.size,_,I.laid (t':=A) C (Nat.le_refl _) (show Ay X.prog X.w _ y _ (.lst _)from⟨by rw[List.length_map];exact G,a.toList,B,Fu F,by rw[Array.toArray_toList];exact D⟩),rfl,q _ I.fresh⟩
end
section
variable{K:ACh} [BA K]
namespace Ak
theorem Eo (a b:List Ak):D' (a++b)=D' a++D' b:=by simp[BG]
theorem Ai (a b:List Ak):AI (a++b)=AI a+AI b:=by
 induction a with
 |nil=>simp[AI]
 |cons x r c=>simp only[List.cons_append,AI,c];lia
theorem Bi (a b:List Ak):AW (a++b)=max (AW a) (AW b):=by
 induction a with
 |nil=>simp[AW]
 |cons x r c=>simp only[List.cons_append,AW,c];lia
theorem Ep {a b:List Ak} (h:IE a) (g:IE b):IE (a++b):=WN fun x c=>(List.mem_append.mp c).elim (Gy h x) (Gy g x)
theorem Fz (a:Ak):AI [a]=a.size:=by simp[AI]
theorem F_ (a:Ak):AW [a]=a.deep:=by simp[AW]
theorem JU {a:Ak} (h:a.ok):IE [a]:=⟨h,trivial⟩
end Ak
theorem Q_ {ks:List Str} {ws:List V} (l:ks.length=ws.length) (y:Str) (v:V):Bz (ks++[y]) (ws++[v])=Bz ks ws++[(Sum.inr y,v)]:=by
 unfold Bz
 rw[List.zip_append l,List.map_append]
 rfl
theorem SU {ks:List Str} {ws:List V} (l:ks.length=ws.length) {y:Str} (h:y∉ks) (v:V):putK (Bz ks ws) (Sum.inr y) v=Bz (ks++[y]) (ws++[v]):=by
 rw[Q_ l,OJ]
 have:=Ih (Be l) y
 rw[decide_eq_false h]at this
 cases e:CS (Bz ks ws) (Sum.inr y:Key)with
 |none=>rfl
 |some z=>rw[e]at this;cases this
structure GO (H H4:Hp) (l p6 p7:Addr) (ys:List Str) (d N:Nat) (i:Nat) (Hi:Hp) (ks:List Str) (as:List Ak) (ls:List Str) (SV:List Int) (ws:List V):Prop where
 n6:H p6=none
 n7:H p7=none
 o6:H4 p6≠none
 o7:H4 p7≠none
 ne:p6≠p7
 hl:H l≠none
 h4:∀b,H4 b=none->H b=none
 bt:Bt (some l) H Hi
 dm:∀b,Hi b=none->H4 b=none
 e6:Hi p6=some (.dK (Bz ks ws))
 e7:Hi p7=some (.lst (ls.map V.str))
 el:Hi l=some (.lst (SV.map V.int))
 le:SV.length<=N
 lw:ks.length=ws.length
 la:ks.length=as.length
 vl:Aa (nw H4 Hi) ws (Ak.D' as)
 ok:Ak.IE as
 sz:Ak.AI as<=i+4*(N-SV.length)
 dp:Ak.AW as<=d
 ik:∀k∈ks,∃j,j<i/\ys[j]?=some k
 il:∀k∈ls,∃j,j<i/\ys[j]?=some k
 nk:ks.Nodup
 dj:∀x∈ls,x∉ks
 l4:ks.length<=i
 m4:ls.length<=i
 nl:ls.Nodup
section
variable{H H4:Hp} {l p6 p7:Addr} {ys:List Str} {d N:Nat} {i:Nat} {Hi:Hp} {ks:List Str} {as:List Ak} {ls:List Str} {SV:List Int} {ws:List V}
theorem GO.up {a:Hp} (t:GO H H4 l p6 p7 ys d N i Hi ks as ls SV ws) (s:AG Hi a):GO H H4 l p6 p7 ys d N i a ks as ls SV ws:=
 {t with bt:=t.bt.trans (.of s),dm:=fun b h=>t.dm b (s.free h),e6:=s _ _ t.e6,e7:=s _ _ t.e7,el:=s _ _ t.el,vl:=t.vl.up (BQ (fun b h=>h) fun b e _ h=>s _ _ h)}
theorem GO.weak (t:GO H H4 l p6 p7 ys d N i Hi ks as ls SV ws):GO H H4 l p6 p7 ys d N (i+1) Hi ks as ls SV ws:=
 {t with sz:=by have:=t.sz;lia,ik:=fun k a=>let⟨j,c,b⟩:=t.ik k a;⟨j,by lia,b⟩,il:=fun k a=>let⟨j,c,b⟩:=t.il k a;⟨j,by lia,b⟩,l4:=by have:=t.l4;lia,m4:=by have:=t.m4;lia}
theorem GO.fresh (t:GO H H4 l p6 p7 ys d N i Hi ks as ls SV ws) {y:Str} (c:ys[i]?=some y) (nd:ys.Nodup):y∉ks/\y∉ls:=by
 have e:=(ACe c).1
 have inj:∀j,j<i->ys[j]?=some y->False:=fun j b a=>by
  rw[<-c]at a
  have:=(List.getElem?_inj (by lia) nd).mp a
  lia
 exact⟨fun h=>let⟨j,b,a⟩:=t.ik y h;inj j b a,fun h=>let⟨j,b,a⟩:=t.il y h;inj j b a⟩
theorem GO.lX (t:GO H H4 l p6 p7 ys d N i Hi ks as ls SV ws) {y:Str} (c:ys[i]?=some y) (nd:ys.Nodup):GO H H4 l p6 p7 ys d N (i+1) (upd Hi p7 (.lst (ls.map V.str++[.str y]))) ks as (ls++[y]) SV ws:=by
 have f:=t.fresh c nd
 have l7:l≠p7:=fun z=>t.hl (by rw[z];exact t.n7)
 exact{t.weak with
  bt:=t.bt.new t.n7
  dm:=fun b h=>t.dm b (DF h).2
  e6:=by rw[AJ t.ne];exact t.e6
  e7:=by rw[AE,List.map_append];rfl
  el:=by rw[AJ l7];exact t.el
  vl:=t.vl.up (BQ (fun b h=>h) fun b e g j=>by rw[AJ (fun z=>t.o7 (by rw[<-z];exact g))];exact j)
  il:=fun k m=>(List.mem_append.mp m).elim (fun h=>t.weak.il k h) fun h=>⟨i,by lia,by rw[List.mem_singleton.mp h];exact c⟩
  dj:=fun x n=>(List.mem_append.mp n).elim (fun h=>t.dj x h) fun h=>by rw[List.mem_singleton.mp h];exact f.1
  m4:=by have:=t.m4;simp;lia
  nl:=List.nodup_append.mpr ⟨t.nl,by simp,fun a o b p z=>f.2 (by rw[<-List.mem_singleton.mp p,<-z];exact o)⟩}
theorem GO.asked {g:Hp} {v:V} {a:Ak} {c:List Int} (t:GO H H4 l p6 p7 ys d N i Hi ks as ls SV ws) {y:Str} (p:ys[i]?=some y) (nd:ys.Nodup) (bt:Bt (some l) Hi g) (el:g l=some (.lst (c.map V.int))) (le:c.length<=SV.length) (r:Val (nw Hi g) v a.pt) (ok:a.ok) (sz:a.size<=1+4*(SV.length-c.length)) (dp:a.deep<=d):
  g p6=some (.dK (Bz ks ws))/\putK (Bz ks ws) (Sum.inr y) v=Bz (ks++[y]) (ws++[v])/\GO H H4 l p6 p7 ys d N (i+1) (upd g p6 (.dK (Bz (ks++[y]) (ws++[v])))) (ks++[y]) (as++[a]) ls c (ws++[v]):=by
 have f:=t.fresh p nd
 have l6:l≠p6:=fun z=>t.hl (by rw[z];exact t.n6)
 have l7:l≠p7:=fun z=>t.hl (by rw[z];exact t.n7)
 have e6:=bt.keep _ _ (fun z=>l6 (ACf z)) t.e6
 have e7:=bt.keep _ _ (fun z=>l7 (ACf z)) t.e7
 refine⟨e6,SU t.lw f.1 v,{t.weak with
  bt:=(t.bt.trans bt).new t.n6
  dm:=fun b h=>t.dm b (bt.Cq b (DF h).2)
  e6:=AE
  e7:=by rw[AJ (Ne.symm t.ne)];exact e7
  el:=by rw[AJ l6];exact el
  le:=Nat.le_trans le t.le
  lw:=by have:=t.lw;simp[this]
  la:=by have:=t.la;simp[this]
  vl:=?_
  ok:=Ak.Ep t.ok (Ak.JU ok)
  sz:=by
   rw[Ak.Ai,Ak.Fz]
   have:=t.sz
   have:=t.le
   lia
  dp:=by rw[Ak.Bi,Ak.F_];have:=t.dp;lia
  ik:=fun k s=>(List.mem_append.mp s).elim (fun h=>t.weak.ik k h) fun h=>⟨i,by lia,by rw[List.mem_singleton.mp h];exact p⟩
  nk:=by
   rw[List.nodup_append]
   refine⟨t.nk,by simp,fun a q b j z=>?_⟩
   rw[List.mem_singleton.mp j]at z
   rw[z]at q
   exact f.1 q
  dj:=fun x n h=>(List.mem_append.mp h).elim (fun h=>t.dj x n h) fun h=>by
   rw[List.mem_singleton.mp h]at n
   exact f.2 n
  l4:=by have:=t.l4;simp;lia}⟩
 rw[Ak.Eo]
 refine(t.vl.up (BQ (fun b h=>h) fun b e m o=>?_)).snoc (r.up (BQ (fun b h=>t.dm b h) fun b e m o=>?_))
 ·have j:b≠p6:=fun z=>t.o6 (by rw[<-z];exact m)
  rw[AJ j]
  exact bt.keep b e (fun z=>t.hl (by rw[ACf z];exact t.h4 b m)) o
 ·have j:b≠p6:=fun z=>by rw[z,t.e6]at m;cases m
  rw[AJ j]
  exact o
end
theorem UD.KP:∀{xs:List Pt},(∀x∈xs,UD x)->Pt.AW xs<=1
 |[],_=>by simp[Pt.AW]
 |x::r,h=>by
  have a:=h x List.mem_cons_self
  have c:=UD.KP (xs:=r) fun y b=>h y (List.mem_cons_of_mem _ b)
  have:x.deep<=1:=by cases a<;>simp[Pt.deep,Pt.AW]
  simp only[Pt.AW];lia
theorem Sm.Yg {d:Pt} (h:Sm d):d.deep<=2:=by
 cases h with
 |one h=>cases h<;>simp[Pt.deep,Pt.AW]
 |row h=>have:=UD.KP h;simp only[Pt.deep];lia
 |tab h=>have:=UD.KP h;simp only[Pt.deep];lia
theorem Pt.Dv {a b:List Pt} (h:Pt.CU a) (g:Pt.CU b):Pt.CU (a++b):=Pt.Dt fun x c=>(List.mem_append.mp c).elim (Pt.Ap h x) (Pt.Ap g x)
theorem Pt.Bi (a b:List Pt):Pt.AW (a++b)=max (Pt.AW a) (Pt.AW b):=by
 induction a with
 |nil=>simp[Pt.AW]
 |cons x r c=>simp only[List.cons_append,Pt.AW,c];lia
def EB (us:List Pt):Prop:=∀u∈us,u.doc/\u.size<=4/\u.deep<=2
theorem EB.size:∀{us:List Pt},EB us->Pt.AI us<=4*us.length
 |[],_=>by simp[Pt.AI]
 |x::r,h=>by
  have b:=h x List.mem_cons_self
  have c:=EB.size (us:=r) fun y a=>h y (List.mem_cons_of_mem _ a)
  simp only[Pt.AI,List.length_cons];lia
theorem EB.deep:∀{us:List Pt},EB us->Pt.AW us<=2
 |[],_=>by simp[Pt.AW]
 |x::r,h=>by
  have b:=h x List.mem_cons_self
  have c:=EB.deep (us:=r) fun y a=>h y (List.mem_cons_of_mem _ a)
  simp only[Pt.AW];lia
theorem EB.lY {us:List Pt} (h:EB us):Pt.CU us:=Pt.Dt fun x a=>(h x a).1
theorem aC {v:V} {i:Nat} {u:TS} {D:Ends} {σ:St} {H:Hp} (h:u D (σ.set i (some v)) H):QO (a' (tC v) (Dm i)) u D σ H:=h
theorem Ox {G:Hp} {y:Str} {v:V} {t:Pt} (f:Val G v t):∀{ks:List Str} {ws:List V} {us:List Pt},ks.length=ws.length->ks.Nodup->Aa G ws us->∃(a:List V) (b:List Pt),(Bz ks ws).map (fun d=>if d.1=(Sum.inr y:Key)then(d.1,v)else d)=Bz ks a/\ks.length=a.length/\Aa G a b/\(∀u∈b,u∈us∨u=t)/\Pt.AI b<=Pt.AI us+(if y∈ks then t.size else 0)
 |[],[],_,_,_,.nil=>⟨[],[],rfl,rfl,.nil,(fun u h=>nomatch h),by simp⟩
 |[],_::_,_,l,_,_=>by simp at l
 |_::_,[],_,l,_,_=>by simp at l
 |k::ks,w::ws,_,l,nd,.cons (t:=u) (ts:=us) h r=>by
  obtain⟨o,p⟩:=List.nodup_cons.mp nd
  obtain⟨a,b,g,i,j,m,q⟩:=Ox (y:=y) f (ks:=ks) (ws:=ws) (by simpa using l) p r
  have n:Bz (k::ks) (w::ws)=(Sum.inr k,w)::Bz ks ws:=rfl
  by_cases e:k=y
  ·subst e
   refine⟨v::a,t::b,?_,by simp[i],.cons f j,fun x c=>?_,?_⟩
   ·rw[n,List.map_cons,g,if_pos rfl];rfl
   ·rcases List.mem_cons.mp c with rfl|c
    ·exact .inr rfl
    ·exact(m x c).imp (List.mem_cons_of_mem _) id
   ·rw[if_neg o]at q
    rw[if_pos List.mem_cons_self]
    simp only[Pt.AI];lia
  ·refine⟨w::a,u::b,?_,by simp[i],.cons h j,fun x c=>?_,?_⟩
   ·rw[n,List.map_cons,g,if_neg (fun z=>e (Sum.inr.inj z))];rfl
   ·rcases List.mem_cons.mp c with rfl|c
    ·exact .inl List.mem_cons_self
    ·exact(m x c).imp (List.mem_cons_of_mem _) id
   ·have:(y∈k::ks)↔y∈ks:=by
     constructor
     ·intro h;exact(List.mem_cons.mp h).resolve_left (fun z=>e z.symm)
     ·exact List.mem_cons_of_mem _
    simp only[this,Pt.AI];lia
theorem SW {G:Hp} {y:Str} {v:V} {t:Pt} (i:Val G v t) {ks:List Str} {ws:List V} {us:List Pt} (l:ks.length=ws.length) (nd:ks.Nodup) (h:Aa G ws us):∃(c:List Str) (d:List V) (e:List Pt),putK (Bz ks ws) (Sum.inr y) v=Bz c d/\c.length=d.length/\c.Nodup/\Aa G d e/\(∀k∈c,k∈ks∨k=y)/\(∀u∈e,u∈us∨u=t)/\Pt.AI e<=Pt.AI us+t.size/\c.length<=ks.length+1/\(∀k∈ks,k∈c):=by
 by_cases g:y∈ks
 ·obtain⟨d,e,n,o,p,q,j⟩:=Ox i (y:=y) l nd h
  refine⟨ks,d,e,?_,o,nd,p,fun k f=>.inl f,q,by rw[if_pos g]at j;exact j,by lia,fun k f=>f⟩
  unfold putK
  rw[if_pos,n]
  rw[DB,Ih (Be l)]
  exact decide_eq_true g
 ·refine⟨ks++[y],ws++[v],us++[t],SU l g v,by simp[l],?_,h.snoc i,fun k f=>?_,fun u r=>?_,?_,by simp,fun k f=>List.mem_append_left _ f⟩
  ·rw[List.nodup_append]
   refine⟨nd,by simp,fun a m b s z=>?_⟩
   rw[List.mem_singleton.mp s]at z
   rw[z]at m
   exact g m
  ·exact(List.mem_append.mp f).imp id List.mem_singleton.mp
  ·exact(List.mem_append.mp r).imp id List.mem_singleton.mp
  ·rw[Pt.Ai];simp only[Pt.AI];lia
theorem EV {n:Nat}:∀{us:List Pt},(∀u∈us,u.deep<=n)->Pt.AW us<=n
 |[],_=>by simp[Pt.AW]
 |x::r,h=>by
  have b:=h x List.mem_cons_self
  have c:=EV (us:=r) fun y a=>h y (List.mem_cons_of_mem _ a)
  simp only[Pt.AW];lia
end
section
variable{K:ACh} [BA K]
section
variable{X:Cx}
inductive aD (x:V) (y:V) (H:Hp) (Q:VK):Prop
 |mk (l b:Addr) (xs zs:List V) (a:x=.ref l) (c:y=.ref b) (d:Rd H l (.lst xs)) (e:Rd H b (.lst zs)) (f:xs.length+zs.length<=sizeLine) (g:∀p,H p=none->Q (.ref p) (upd H p (.lst (xs++zs)))):aD x y H Q
theorem Yh:Dy X (binaryOp .Add) aD:=by
 intro pins s p H x y v u Q I f g h
 obtain⟨l,b,t,w,rfl,rfl,i,j,A,q⟩:=h
 cases f
 cases g
 obtain⟨z,c,n,r,e⟩:=i.ok I.BO
 obtain⟨z2,a,B,d,k⟩:=j.ok I.BO
 have C:=r.length
 have m:=d.length
 refine PySem.P.add_list e k ?_ (by rw[List.size_toArray,List.size_toArray];lia)
 have o:c.toArray++a.toArray=(c++a).toArray:=by simp
 rw[o]
 exact⟨.ref _,_,I.YA (t':=s.toks) (r.append d) (by rw[List.length_append];lia),rfl,q _ I.fresh⟩
end
theorem RA:∀{kvs:List (Key×V)} {ks:List Str},kvs.map (·.1)=ks.map Sum.inr->kvs=Bz ks (kvs.map (·.2))
 |[],[],_=>rfl
 |[],_::_,h=>by simp at h
 |_::_,[],h=>by simp at h
 |(k,v)::kvs,y::ks,h=>by
  simp only[List.map_cons,List.cons.injEq]at h
  have:=RA h.2
  rw[h.1,List.map_cons]
  show _=(Sum.inr y,v)::Bz ks (kvs.map (·.2))
  rw[<-this]
theorem Aa.cI {G:Hp} {v:V} {t:Pt} (a:Val G v t):∀{vs:List V} {us:List Pt},Aa G vs us->∀j:Nat,Aa G (vs.set j v) (us.set j t)
 |_,_,.nil,j=>.nil
 |_,_,.cons h r,0=>.cons a r
 |_,_,.cons h r,j+1=>.cons h (r.cI a j)
theorem IM {t u:Pt}:∀{us:List Pt} {j:Nat},us[j]?=some u->Pt.AI (us.set j t)+u.size=Pt.AI us+t.size
 |[],j,h=>by simp at h
 |x::r,0,h=>by
  have e:x=u:=by simpa using h
  subst e
  simp only[List.set_cons_zero,Pt.AI];lia
 |x::r,j+1,h=>by
  have:=IM (t:=t) (us:=r) (j:=j) (by simpa using h)
  simp only[List.set_cons_succ,Pt.AI];lia
theorem mem_set {t:Pt} {us:List Pt} {j:Nat} {x:Pt} (h:x∈us.set j t):x∈us∨x=t:=by
 rcases List.mem_or_eq_of_mem_set h with h|h
 ·exact .inl h
 ·exact .inr h
theorem SX:∀{ks:List Str} {ws:List V} {y:Str} {v:V} {j:Nat},ks.length=ws.length->ks.Nodup->ks[j]?=some y->(Bz ks ws).map (fun a=>if a.1=(Sum.inr y:Key)then(a.1,v)else a)=Bz ks (ws.set j v)
 |[],_,_,_,_,_,_,h=>by simp at h
 |_::_,[],_,_,_,l,_,_=>by simp at l
 |k::ks,w::ws,y,v,0,l,nd,h=>by
  obtain⟨b,f⟩:=List.nodup_cons.mp nd
  have e:k=y:=by simpa using h
  subst e
  have c:Bz (k::ks) (w::ws)=(Sum.inr k,w)::Bz ks ws:=rfl
  rw[c,List.map_cons,if_pos rfl]
  show _=(Sum.inr k,v)::Bz ks ws
  congr 1
  conv=>rhs;rw[<-List.map_id (Bz ks ws)]
  refine List.map_congr_left fun a d=>?_
  rw[if_neg]
  ·rfl
  ·intro z
   have:a.1∈(Bz ks ws).map (·.1):=List.mem_map_of_mem d
   rw[Be (by simpa using l),z]at this
   obtain⟨x,g,e⟩:=List.mem_map.mp this
   rw[Sum.inr.inj e]at g
   exact b g
 |k::ks,w::ws,y,v,j+1,l,nd,h=>by
  obtain⟨b,f⟩:=List.nodup_cons.mp nd
  have i:ks[j]?=some y:=by simpa using h
  have c:Bz (k::ks) (w::ws)=(Sum.inr k,w)::Bz ks ws:=rfl
  have ne:¬(Sum.inr k:Key)=Sum.inr y:=fun z=>b (by rw[Sum.inr.inj z];exact ACg i)
  rw[c,List.map_cons,SX (v:=v) (by simpa using l) f i,if_neg ne]
  rfl
theorem cJ {ks:List Str} {ws:List V} {y:Str} {j:Nat} (v:V) (l:ks.length=ws.length) (nd:ks.Nodup) (h:ks[j]?=some y):putK (Bz ks ws) (Sum.inr y) v=Bz ks (ws.set j v):=by
 unfold putK
 rw[if_pos,SX l nd h]
 rw[DB,Ih (Be l)]
 exact decide_eq_true (ACg h)
theorem Oy {G:Hp} {y:Str}:∀{ks:List Str} {ws:List V} {us:List Pt},ks.length=ws.length->ks.Nodup->Aa G ws us->∃(a:List Str) (b:List V) (c:List Pt),E' (Bz ks ws) (Sum.inr y)=Bz a b/\a.length=b.length/\a.Nodup/\Aa G b c/\(∀k∈a,k∈ks)/\(∀u∈c,u∈us)/\Pt.AI c<=Pt.AI us/\a.length<=ks.length
 |[],[],_,_,_,.nil=>⟨[],[],[],rfl,rfl,.nil,.nil,(fun u h=>nomatch h),(fun u h=>nomatch h),Nat.le_refl _,Nat.le_refl _⟩
 |[],_::_,_,l,_,_=>by simp at l
 |_::_,[],_,l,_,_=>by simp at l
 |k::ks,w::ws,_,l,nd,.cons (t:=u) (ts:=us) h r=>by
  obtain⟨p,q⟩:=List.nodup_cons.mp nd
  obtain⟨a,b,c,f,g,i,j,e,m,s,v⟩:=Oy (y:=y) (ks:=ks) (ws:=ws) (by simpa using l) q r
  have n:Bz (k::ks) (w::ws)=(Sum.inr k,w)::Bz ks ws:=rfl
  by_cases o:(Sum.inr k:Key)=Sum.inr y
  ·exact⟨a,b,c,by rw[n,Ti o,f],g,i,j,fun x d=>List.mem_cons_of_mem _ (e x d),fun x d=>List.mem_cons_of_mem _ (m x d),by simp only[Pt.AI];lia,by simp only[List.length_cons];lia⟩
  ·refine⟨k::a,w::b,u::c,by rw[n,Tj o,f];rfl,by simp[g],List.nodup_cons.mpr ⟨fun d=>p (e k d),i⟩,.cons h j,fun x d=>?_,fun x d=>?_,by simp only[Pt.AI];lia,by simp only[List.length_cons];lia⟩
   ·rcases List.mem_cons.mp d with rfl|d
    ·exact List.mem_cons_self
    ·exact List.mem_cons_of_mem _ (e x d)
   ·rcases List.mem_cons.mp d with rfl|d
    ·exact List.mem_cons_self
    ·exact List.mem_cons_of_mem _ (m x d)
theorem IP {G H a:Hp} {b:Addr} (c:AG G H) (h:H b=none):ov G H a b=a b:=by
 unfold ov
 rw[c.free h,Al h]
theorem SY {G H a H2 c:Hp} (f:AG G H) (d:∀b,a b=none->H b=none) (s:∀b o,a b=none->H2 b=some o->c b=some o):AG (nw a H2) (ov G H c):=fun b o e=>by
 cases h:a b with
 |none=>rw[Al h]at e;rw[IP f (d b h)];exact s b o h e
 |some z=>rw[FY h]at e;cases e
theorem WR {G H a c f:Hp} (g:AG G H) (d:∀b,a b=none->H b=none) (s:∀b o,a b=none->c b=some o->f b=some o):AG (ov G a c) (ov G H f):=fun b o e=>by
 unfold ov at e
 cases h:G b with
 |some z=>rw[h]at e;unfold ov;rw[h];exact e
 |none=>
  rw[h]at e
  exact SY g d s b o e
theorem Yi {c:TT} {T U:TS} {D:Ends} {σ:St} {H:Hp} (R:Hp->Prop) (k:∀a,R a->T D σ a) (h:(∀a,R a->T D σ a)->Gg c T U D σ H):Gg c T U D σ H:=h k
theorem Aa.aE {G:Hp}:∀{vs:List V} {us:List Pt},Aa G vs us->∀k:Nat,Aa G (vs.take k) (us.take k)
 |_,_,.nil,k=>by rw[List.take_nil,List.take_nil];exact .nil
 |_,_,.cons h r,0=>.nil
 |_,_,.cons h r,k+1=>.cons h (r.aE k)
theorem KQ:∀(us:List Pt) (k:Nat),Pt.AI (us.take k)<=Pt.AI us
 |[],k=>by simp
 |x::r,0=>by simp[Pt.AI]
 |x::r,k+1=>by have:=KQ r k;simp only[List.take_succ_cons,Pt.AI];lia
theorem UG (vs:List V):∃k,GN vs none (some (-1))=vs.take k:=by
 rcases List.eq_nil_or_concat vs with rfl|⟨a,b,rfl⟩
 ·exact⟨0,by simp[GN]⟩
 ·exact⟨a.length,by rw[List.concat_eq_append,Ts];simp⟩
end
section
variable{K:ACh} [BA K]
theorem Bt.over {a c H2:Hp} {D:Addr} (s:AG a c) (d:a D=none) (bt:Bt (some D) c H2):AG a H2:=fun b o e=>bt.keep b o (fun z=>by rw[<-ACf z,d]at e;cases e) (s _ _ e)
theorem KR {a c:Hp} {D:Addr} (s:AG a c) (d:a D=none):AG a (Du D c):=fun b o e=>by
 rw[EA (fun z=>by rw[z,d]at e;cases e)]
 exact s _ _ e
theorem ints_of:∀{vs:List V},(∀(i:Nat) v,vs[i]?=some v->∃z:Int,v=.int z)->∃cs:List Int,vs=cs.map V.int
 |[],_=>⟨[],rfl⟩
 |v::r,h=>by
  obtain⟨z,rfl⟩:=h 0 v rfl
  obtain⟨cs,rfl⟩:=ints_of (vs:=r) fun i v a=>h (i+1) v (by simpa using a)
  exact⟨z::cs,rfl⟩
structure GV (H5 Hi:Hp) (p5:Addr) (ws:List V) (us:List Pt):Prop where
 s:AG H5 Hi
 n5:H5 p5=none
 f:Hi p5=some (.lst ws)
 v:Aa (Du p5 Hi) ws us
theorem GV.up {c g h:Hp} {a:Addr} {ws:List V} {us:List Pt} (d:GV c g a ws us) (s:AG g h):GV c h a ws us:=⟨d.s.trans s,d.n5,s _ _ d.f,d.v.up fun b o e=>by
 have i:b≠a:=fun z=>by unfold Du at e;rw[if_pos z]at e;cases e
 rw[EA i]at e⊢
 exact s _ _ e⟩
theorem GV.push {f g c:Hp} {a:Addr} {ws:List V} {us:List Pt} {w:V} {t:Pt} (d:GV f g a ws us) (s:AG g c) (i:Val (Du a c) w t):GV f (upd c a (.lst (ws++[w]))) a (ws++[w]) (us++[t]):=by
 have u:AG (Du a c) (Du a (upd c a (.lst (ws++[w])))):=fun b o e=>by
  have h:b≠a:=fun z=>by unfold Du at e;rw[if_pos z]at e;cases e
  rw[EA h]at e⊢
  rw[AJ h]
  exact e
 exact⟨(d.s.trans s).put d.n5,d.n5,AE,((d.up s).v.up u).snoc (i.up u)⟩
theorem GV.lZ {j c g:Hp} {a:Addr} {ws:List V} {us:List Pt} {w:V} {t:Pt} (d:GV j c a ws us) (s:AG c g) (k:Val (ov (Du a c) c g) w t):Val (Du a g) w t:=k.up fun b o e=>by
 unfold ov at e
 cases h:Du a c b with
 |some z=>
  rw[h]at e
  cases e
  have i:b≠a:=fun z=>by unfold Du at h;rw[if_pos z]at h;cases h
  rw[EA i]at h⊢
  exact s _ _ h
 |none=>
  rw[h]at e
  have i:b≠a:=fun z=>by rw[z,FY d.f]at e;cases e
  rw[EA i]
  exact Dh _ _ e
end
end L2
namespace PySem
open PyProof.Rows PySem.F PySem.Spec
theorem LR:typeLookup (.type "zip") "keys"=pure none:=by rw[typeLookup_type,builtinLookup_eq_fast];kernel_rfl
theorem IQ:typeLookup (.type "zip") "__getattr__"=pure none:=by rw[typeLookup_type,builtinLookup_eq_fast];kernel_rfl
theorem Er:entryFor table "zip.__getattribute__"=some Builtin.«object.__getattribute__»:=
 entryFor_alias (id':="object.__getattribute__") (by kernel_rfl) (by decide+kernel) (by decide+kernel) (by kernel_rfl)
theorem WS (a:Addr) (fs:Array Value) (name:Str) (u:Tok) (e:typeLookup (.type "zip") name=pure none) (b:(["__module__","__name__","__qualname__","__doc__","__annotations__"]:List Str).contains name=false) (hsz:name.length+100<=sizeLine:=by size_fits):
  Meets (Builtin.«object.__getattribute__» ⟨[.ref a,.str name u],[]⟩) (fun A R s=>s.heap.get? a=some {cls:=.type "zip",dict:=none,data:=.fields fs,slots:= #[]}/\raisesAttr (.ref a) name A R s):=
 Meets.of_wp fun prog w A R s c=>by
  obtain⟨f,g,d,h,os⟩:=s
  obtain⟨i,c⟩:=c
  have j:(⟨f,g,d,h,os⟩:Shared).TypeIs (.ref a) "zip":=⟨_,i,rfl⟩
  unfold Builtin.«object.__getattribute__»
  repeat (any_goals (first|assumption|wp_step))
  simp only[b,Bool.false_eq_true,if_false]
  repeat (any_goals (first|assumption|wp_step))
  exact wpAny_raiseAttrError c.1 c.2 (attrMsg_fits (by decide+kernel) hsz)
theorem LS {prog:Program} {w:World} {A:Around} {E:Value->Shared->Prop} {s:Shared} {a:Addr} {fs:Array Value} {Q:Option Value->Shared->Prop}
  (i:s.heap.get? a=some {cls:=.type "zip",dict:=none,data:=.fields fs,slots:= #[]}) (hA:A.handled=none)
  (h:∀f j e,Heap.NewExcOf s.heap f e "AttributeError"->Q none {s with heap:=f,toks:=j}):
  wpAny (model prog w) A (getAttr? (.ref a) "keys") Q E s:=by
 obtain⟨l,g,d,j,os⟩:=s
 have k:∀b,(⟨l,g,d,b,os⟩:Shared).TypeIs (.ref a) "zip":=fun _=>⟨_,i,rfl⟩
 have m:=sub_AttributeError
 have n:=F.slot_zip_getattribute.lookup
 have o:=F.slot_zip_getattribute.bind (.ref a)
 have p:=IQ
 unfold getAttr? getAttrBy? getAttrBy
 repeat (any_goals (first|assumption|exact k _|((with_reducible show wpAny _ _ (call (Value.builtin "zip.__getattribute__") _ _) _ _ _);refine call_meets F.slot_zip_getattribute (k _) Er (F.args_zip_getattribute_2 _ _) (WS a fs "keys" _ LR (by decide+kernel)) ⟨i,hA,fun f b e c=>?_⟩)|wp_step))
 obtain⟨q,r,t⟩:=c.there
 show wpAny _ _ (getattributeRaised _ _ _ _ _ _ _) _ _ _
 unfold getattributeRaised
 repeat (any_goals (first|assumption|wp_step))
 exact h _ _ _ c.of
end PySem
namespace L2
open PySem PySem.Spec PyProof.Rows
section
variable{prog:Program} {w:World} {K:Type} [DecidableEq K] {knd:KeyKind prog w K} {A:Around} {R:Result->Shared->Prop}
theorem UH {d z TI TO t u l1 l2:Addr} {xs ys:Array Value} {more:List (K×Value)} (Q:A.handled=none) (D:ZipApart z TI TO t u l1 l2) (c:z≠d/\TI≠d/\TO≠d/\t≠d/\u≠d/\l1≠d/\l2≠d) (hl:xs.size=more.length) (hsz:more.length<=100000)
  (S:∀(j:Nat) l f,more[j]?=some (l,f)->∃a,xs[j]?=some a/\ys[j]?=some f/\knd.is l a=true):
  ∀(k i:Nat) (s:Shared),more.length-i=k->i<=more.length->cE s.heap z TI TO t u l1 l2 d i xs ys->s.heap.DictOf knd d (merged [] (more.take i))->
   (∀h' tk,h'.DictOf knd d (merged [] more)->(∀b o,b≠d->b≠z->b≠TO->b≠t->b≠u->s.heap.get? b=some o->h'.get? b=some o)->R (.ok (.ret .none)) {s with heap:=h',toks:=tk})->
   codeAny (model prog w) A (.builtin "dict.update.loop" ⟨[.ref d,.ref z,rawInt (i:Int),.none],[]⟩) R s:=by
 intro k
 induction k with
 |zero=>
  intro i s T U st v y
  have B:i=more.length:=by lia
  subst B
  refine codeAny_builtin Ca ?_
  rw[Around.under_plainId BW _]
  show wpAny _ A.in1 (pyNext (.ref z)>>=_) _ _ s
  refine wpAny_bind (WH (A:=A.in1) Q D st (by simp[<-hl]) fun h' kept=>?_)
  rw[List.take_length]at v
  obtain⟨o,C,E,x,r⟩:=v
  show wpAny _ A.in1 (Builtin.Dict.addKeywords d []>>=_) _ _ _
  exact wpAny_bind (wpAny_pure (wpAny_pure (y h' s.toks ⟨o,C,E,kept _ _ c.1.symm c.2.2.1.symm c.2.2.2.1.symm c.2.2.2.2.1.symm x,r⟩ fun b o _ c1 c2 c3 c4 e=>kept b o c1 c2 c3 c4 e)))
 |succ k V=>
  intro i s T U st v y
  have m:i<more.length:=by lia
  obtain⟨⟨l,f⟩,N⟩:∃p,more[i]?=some p:=⟨_,ACd m⟩
  obtain⟨a,W,X,g⟩:=S i l f N
  obtain⟨o,C,E,x,r⟩:=id v
  have F:d<s.heap.objs.size:=Heap.lt_size x
  refine codeAny_builtin Ca ?_
  rw[Around.under_plainId BW _]
  show wpAny _ A.in1 (pyNext (.ref z)>>=_) _ _ s
  refine wpAny_bind (WG (A:=A.in1) D st F W X fun h' G h O kept=>?_)
  have Y:({s with heap:=h'}:Shared).TypeIs (.ref s.heap.objs.size) "tuple":=⟨_,h,rfl⟩
  have H:h'.DictOf knd d (merged [] (more.take i)):=⟨o,C,E,kept _ _ c.1.symm c.2.2.1.symm c.2.2.2.1.symm c.2.2.2.2.1.symm x,r⟩
  have I:(merged [] (more.take i)).length<=sizeLine:=by
   have:=merged_length_le ([]:List (K×Value)) (more.take i)
   rw[List.length_take,List.length_nil]at this
   have e:sizeLine=16777216:=sizeLine_eq
   lia
  show wpAny _ A.in1 (holding [Value.ref s.heap.objs.size] _>>=_) _ _ _
  refine wpAny_bind (wpAny_holding (wpAny_bind (wpAny_tryCatch ?_)))
  unfold Builtin.Dict.pairItems
  refine wpAny_bind (wpAny_typeOf Y ?_)
  rw[if_pos (by decide)]
  unfold seqItems?
  refine wpAny_bind ?_
  refine wpAny_bind (wpAny_load h ?_)
  refine wpAny_pure (wpAny_pure ?_)
  show wpAny _ A.in1 (holding [a,f] (dictSet d a f)) _ _ _
  refine wpAny_holding ?_
  unfold dictSet
  try with_reducible refine wpAny_holding ?_
  refine wpAny_bind (knd.pyHash g ?_)
  refine wpAny_dictSetHashed_pairs (hsz:=I) g H fun h2 n q=>?_
  have Z:stored (merged [] (more.take i)) l f=merged [] (more.take (i+1)):=(merged_take_succ [] more i (l,f) N).symm
  rw[Z]at n
  have ic:((i:Int)+1)=((i+1:Nat):Int):=by simp
  refine wpAny_pure ⟨plainId_quiet BW _,?_⟩
  rw[ic]
  refine V (i+1) _ (by lia) m (G.keep (fun b o hb e=>by rw[q.2 b hb];exact e) c) n fun h3 J L M=>y h3 J L fun b o P c1 c2 c3 c4 e=>M b o P c1 c2 c3 c4 (by rw[q.2 b P];exact kept b o c1 c2 c3 c4 e)
end
section
variable{X:Cx} {pins:List (Addr×Obj)} {σ:St} {H:Hp} {s:Shared}
def d_ (ks:List Str) (ys:List V):List (Key×V):=(ks.zip ys).map fun p=>(Sum.inr p.1,p.2)
inductive jY (K:ACh) (x y:V) (H:Hp) (Q:VK):Prop
 |mk (a b:Addr) (ks:List Str) (ys:List V) (c:x=.ref a) (d:y=.ref b) (e:Ah K H a (ks.map V.str)) (f:Ah K H b ys) (hl:ks.length=ys.length) (hz:ks.length<=1000) (q:∀p,H p=none->Q (.ref p) (upd H p (.dK (CT [] (d_ ks ys))))):jY K x y H Q
def xX (K:ACh) (a b:TE):TE:=fun σ H Q=>a σ H fun x c=>b σ c fun y d=>jY K x y d Q
def xY (K:ACh) (Q:VK):List V->Hp->Prop
 |[x,y],H=>jY K x y H Q
 |_,_=>False
theorem Oz:∀{ks:List Str} {ys:List V} {its a:List Value},ks.length=ys.length->Vals (ks.map V.str) its->Vals ys a->∃more:List (Key×Value),KV (d_ ks ys) more/\more.length=ks.length/\∀(j:Nat) d f,more[j]?=some (d,f)->∃c,its[j]?=some c/\a[j]?=some f/\(Am X.prog X.w).is d c=true
 |[],[],_,_,_,_,_=>⟨[],.nil,rfl,fun j d f e=>by simp at e⟩
 |[],_::_,_,_,h,_,_=>by simp at h
 |_::_,[],_,_,h,_,_=>by simp at h
 |k::ks,y::ys,_,_,h,.cons (b:=u) (l₂:=its) i r,.cons (b:=g) (l₂:=a) l m=>by
  obtain⟨more,n,o,p⟩:=Oz (by simpa using h) r m
  refine⟨(Sum.inr k,g)::more,.cons ⟨rfl,l⟩ n,by simp[o],fun j d f e=>?_⟩
  cases j with
  |zero=>
   have e:(Sum.inr k,g)=(d,f):=by simpa using e
   cases e
   exact⟨u,rfl,rfl,Gm (k:=Sum.inr k) i⟩
  |succ j=>
   obtain⟨c,c1,c2,c3⟩:=p j d f (by simpa using e)
   exact⟨c,by simpa using c1,by simpa using c2,c3⟩
theorem O_ {m k:Expr} {p T pos d:Pos} {t1 t2:TE} (hc:X.calm=true) (hg:Gl X "dict") (hm:X.mg "dict"=none) (Y:Gl X "zip") (Z:X.mg "zip"=none) (U:PE X m t1) (h2:PE X k t2)
  (hv:bootBuiltins "dict"=some (.type "dict"):=by decide+kernel) (gN:bootBuiltins "zip"=some (.type "zip"):=by decide+kernel)
  (he:starEach [.Call (.Name "zip" T) [m,k] [] d] X.env=(false,eval (.Call (.Name "zip" T) [m,k] [] d) X.env)::starEach [] X.env:=by rfl) (cK:(backTo pos (starEach [] X.env)).any (·.1)=false:=by rfl)
  (J:starEach [m,k] X.env=(false,eval m X.env)::starEach [k] X.env:=by rfl) (L:(backTo d (starEach [k] X.env)).any (·.1)=false:=by rfl) (xZ:starEach [k] X.env=(false,eval k X.env)::starEach [] X.env:=by rfl):
  PE X (.Call (.Name "dict" p) [.Call (.Name "zip" T) [m,k] [] d] [] pos) (xX X.K t1 t2):=by
 intro pins s σ H Q I h
 refine wpAny_Call_Name_kw (Ec I hg hm hv ?_ (by decide) (by decide))
 refine PyProof.Rows.callWith_type1 ?_ he cK
 rw[he]
 show wpAny _ _ (spliced ((false,eval (.Call (.Name "zip" T) [m,k] [] d) X.env)::backTo pos (starEach [] X.env))) _ _ s
 refine Calls.spliced_cons ?_
 refine wpAny_Call_Name_kw (Ec I Y Z gN ?_ (by decide) (by decide))
 refine PyProof.Rows.callWith_type1 (Bo ((AA U (AA h2 AB xZ) J) d pins s σ H (xY X.K Q) I h) fun us f zq=>zq.elim fun vs H1 M r1 V=>?_) J L
 obtain⟨x,y,rfl⟩:∃x y,vs=[x,y]:=by
  rcases vs with _|⟨x,_|⟨y,_|⟨z,r⟩⟩⟩
  ·exact V.elim
  ·exact V.elim
  ·exact⟨x,y,rfl⟩
  ·exact V.elim
 obtain⟨a,b,W,ys,rfl,rfl,ha,hb,hl,hz,q⟩:=(show jY X.K x y H1 Q from V)
 obtain⟨u,v,rfl,ru,rv⟩:=vals2 r1
 cases ru
 cases rv
 obtain⟨its,r,pl,_⟩:=M.list ha
 obtain⟨N,r',B,_⟩:=M.list hb
 have C:a<f.heap.objs.size:=(let⟨_,e,_⟩:=pl.isList;Heap.lt_size e)
 have E:b<f.heap.objs.size:=(let⟨_,e,_⟩:=B.isList;Heap.lt_size e)
 have O:X.A.in1.handled=none:=I.ok.hd hc
 refine call_zip_2 pl.isList B.isList fun c z1 z2 z3 z4 z5 z6 k5=>?_
 refine Calls.spliced_nil ?_
 obtain⟨more,m1,m2,m3⟩:=Oz (X:=X) hl r r'
 have D:=zipApart_new (n:=f.heap.objs.size) C E
 refine callType_codes (Q₁:=fun P t=>P=.ref c.objs.size/\t={f with heap:=c.push {cls:=.type "dict",data:=.dict #[]}}) F.kt_called_dict (F.kt_typeCall_dict_1 _) F.entry_dict_init (kt_code_dict_new _ ⟨rfl,rfl⟩) ?_
 rintro P t ⟨rfl,rfl⟩
 have i:(c.push {cls:=.type "dict",data:=.dict #[]}).DictOf (Am X.prog X.w) c.objs.size []:=Heap.DictOf.new c
 refine⟨i.typeIs,F.args_dict_init_2 _ _,?_⟩
 unfold Builtin.«dict.__init__»
 refine wpAny_bind ?_
 unfold Builtin.Dict.selfAndRest
 refine wpAny_bind (wpAny_notOrdered_dict i.typeIs ?_)
 show wpAny _ _ (pure (c.objs.size,[Value.ref (f.heap.objs.size+4)])) _ _ _
 refine wpAny_pure ?_
 show wpAny _ _ (Builtin.Dict.updateFrom "dict.__init__" c.objs.size (.ref (f.heap.objs.size+4)) [] .none) _ _ _
 unfold Builtin.Dict.updateFrom
 have up:∀b o,c.get? b=some o->(c.push {cls:=.type "dict",data:=.dict #[]}).get? b=some o:=fun b o e=>Heap.get?_push_of_some _ e
 have xa:({f with heap:=c.push {cls:=.type "dict",data:=.dict #[]}}:Shared).TypeIs (.ref (f.heap.objs.size+4)) "zip":=⟨_,up _ _ z1,rfl⟩
 refine wpAny_bind (wpAny_typeOf xa ?_)
 rw[if_pos (by decide)]
 refine wpAny_bind (LS (up _ _ z1) O fun U xK m ne1=>?_)
 rw[if_pos (show(Option.isNone (none:Option Value))=true from rfl)]
 have R:∀b o,(c.push {cls:=.type "dict",data:=.dict #[]}).get? b=some o->U.get? b=some o:=ne1.keeps
 have g:∀b o,c.get? b=some o->U.get? b=some o:=fun b o e=>R b o (up b o e)
 refine wpAny_bind (wpAny_rule ?_)
 refine wpAny_bind (wpAny_pyIter_zip (g _ _ z1) ?_)
 refine wpAny_pure ⟨plainId_quiet BW _,?_⟩
 obtain⟨od,es,ep,xb,rd⟩:=id i
 have lt5:∀{b o},c.get? b=some o->b≠c.objs.size:=fun e=>Nat.ne_of_lt (Heap.lt_size e)
 have xc:∀{b o},f.heap.get? b=some o->b<f.heap.objs.size:=fun e=>Heap.lt_size e
 have nS:f.heap.objs.size+4≠c.objs.size/\f.heap.objs.size+2≠c.objs.size/\f.heap.objs.size+3≠c.objs.size/\f.heap.objs.size≠c.objs.size/\f.heap.objs.size+1≠c.objs.size/\a≠c.objs.size/\b≠c.objs.size:=by
  have G:c.objs.size=f.heap.objs.size+5:=z6
  rw[G]
  generalize f.heap.objs.size=n at C E
  exact⟨by lia,by lia,by lia,by lia,by lia,Nat.ne_of_lt (Nat.lt_of_lt_of_le C (Nat.le_add_right _ _)),Nat.ne_of_lt (Nat.lt_of_lt_of_le E (Nat.le_add_right _ _))⟩
 show codeAny _ _ (.builtin "dict.update.loop" ⟨[.ref c.objs.size,.ref (f.heap.objs.size+4),rawInt ((0:Nat):Int),.none],[]⟩) _ _
 refine UH (knd:=Am X.prog X.w) (xs:=its.toArray) (ys:=N.toArray) (more:=more) O D nS (by rw[List.size_toArray,m2,<-r.length,List.length_map]) (by lia) (fun j k' v' e=>?_) more.length 0 _ (by simp) (Nat.zero_le _)
  ⟨.inl ⟨rfl,g _ _ z1,_,_,g _ _ z3⟩,g _ _ z2,z4.at fun o e=>g _ o e,z5.at fun o e=>g _ o e,(pl.isList.at fun o e=>g _ o (k5 _ o e)),(B.isList.at fun o e=>g _ o (k5 _ o e))⟩ ⟨od,es,ep,R _ _ xb,rd⟩ (fun h2 lJ hd2 lK=>⟨rfl,?_⟩)
 ·obtain⟨key,c1,c2,c3⟩:=m3 j k' v' e
  exact⟨key,by simpa using c1,by simpa using c2,c3⟩
 ·have bh:(CT [] (d_ W ys)).length<=sizeLine:=by
   have:=C_ (d_ W ys) []
   have e:(d_ W ys).length=W.length:=by unfold d_;rw[List.length_map,List.length_zip];lia
   exact Ad (by simp at this;lia)
  have G:c.objs.size=f.heap.objs.size+5:=z6
  have big:=M.big
  have l:f.heap.objs.size<=c.objs.size:=by rw[G];exact Nat.le_add_right _ _
  refine⟨.ref c.objs.size,_,M.laid (t':=lJ) (fun b o e=>?_) l (ID bh (beq_eq_false_iff_ne.mpr (Ne.symm (Nat.ne_of_lt (Nat.lt_of_lt_of_le big l)))) (KV.merge m1 .nil) hd2),rfl,q _ (M.BO.fresh l)⟩
  have S:=xc e
  exact lK b o (Nat.ne_of_lt (Nat.lt_of_lt_of_le S l)) (Nat.ne_of_lt (Nat.lt_of_lt_of_le S (Nat.le_add_right _ _))) (Nat.ne_of_lt (Nat.lt_of_lt_of_le S (Nat.le_add_right _ _))) (Nat.ne_of_lt S) (Nat.ne_of_lt (Nat.lt_of_lt_of_le S (Nat.le_add_right _ _))) (g _ _ (k5 _ _ e))
end
def eB (n:Nat):It:=⟨fun i _=>i<n,fun i H x a=>a=H/\x=.int (((n:Nat):Int)-1-((i:Nat):Int)),fun i _=>n<=i⟩
theorem UI {P:Program} {w:World} {K:ACh} {tg:Expr} (it:Addr) (n:Nat):Turn P w K tg (eB n) [it] it (fun i h=>IsRangeIter h it ((((n:Nat):Int)-1)+(i:Nat)*(-1)) ((n:Int)-(i:Nat)) (-1))where
 mem:=by simp
 obj:=fun i h st b hb=>by
  have e:b=it:=by simpa using hb
  subst e
  exact⟨_,st,fun v z=>by
   have z':Data.fields _=Data.cell v:=z
   cases z'⟩
 keep:=fun i h h' st k=>k it (by simp) _ st
 item:=by
  intro X hP hw hK hc i pins s σ H E I hf st hg
  subst hP hw hK
  obtain⟨f0,f1,f2,f3,f4,f5⟩:=hf it (by simp)
  have W:=Walks.range (prog:=X.prog) (w:=X.w) (I.ok.hd hc) it (((n:Nat):Int)-1) (-1) n
  refine W.item i s _ _ hg st fun v h' tk hv Nj kk=>?_
  obtain⟨t,rfl⟩:=hv
  have I1:Inv X pins σ H {s with heap:=h',toks:=tk}:=I.turned (fun b o hb e=>kk b o (by simpa using hb) e) f0 f1 f3 f4 f5
  refine⟨_,rfl,Lc (s:={s with heap:=h',toks:=tk}) (n:="range_iterator") Nj rfl rfl (by decide) ⟨.int (((n:Nat):Int)-1-((i:Nat):Int)),H,I1,⟨t,?_⟩,⟨rfl,rfl⟩,Nj,fun b hb=>(hf b hb).1⟩⟩
  congr 1
  lia
 done:=by
  intro X hP hw hK hc i pins s σ H E I hf st hg
  subst hP hw hK
  obtain⟨f0,f1,f2,f3,f4,f5⟩:=hf it (by simp)
  exact wpAny_pyNext_range_end (I.ok.hd hc) st (by have:n<=i:=hg;lia) fun h' eb=>⟨rfl,I.turned (t':=s.toks) (fun b o hb e=>eb b o hb e) f0 f1 f3 f4 f5⟩
 self:=fun _ _ _ _ _ st h=>wpAny_pyIter_rangeiter st h
section
variable{X:Cx} {tg:Expr}
theorem Yj {pins:List (Addr×Obj)} {σ:St} {H:Hp} {s:Shared} {R:It->Hp->Prop} {E:Value->Shared->Prop} {n:Nat} {t u v:Tok} {tk:Nat} (I:Inv X pins σ H s) (f:n<=1000)
  (q:R (eB n) H):wpAny (model X.prog X.w) X.A (pyIter (.ref s.heap.objs.size)) (jQ X pins σ tg R) E {s with heap:=s.heap.push {cls:=.type "range",data:=.fields #[.int (((n:Nat):Int)-1) t,.int (-1) u,.int (-1) v]},toks:=tk}:=by
 have sz:Builtin.Range.rangeSize (((n:Nat):Int)-1) (-1) (-1)=(n:Int):=by
  unfold Builtin.Range.rangeSize
  rw[if_neg (by decide)]
  split
  ·have:(((n:Nat):Int)-1-(-1)-1)/(-(-1))+1=n:=by
    rw[show(-(-1:Int))=1 from rfl,Int.ediv_one];lia
   exact this
  ·lia
 have c:Builtin.Range.small (((n:Nat):Int)-1) (-1) (-1)=true:=by
  unfold Builtin.Range.small
  rw[sz]
  simp only[Builtin.Range.rangeFitsLong,Bool.and_eq_true,Bool.or_eq_true,decide_eq_true_eq,beq_iff_eq,show¬((-1:Int)>0)by decide,if_false]
  lia
 refine wpAny_pyIter_range (IsRange.new ..) c ?_
 rw[sz]
 have a:Inv X pins σ H {s with heap:=s.heap.push {cls:=.type "range",data:=.fields #[.int (((n:Nat):Int)-1) t,.int (-1) u,.int (-1) v]},toks:=tk}:=I.kept fun b o e=>Heap.get?_push_of_some _ e
 refine⟨_,[(s.heap.push {cls:=.type "range",data:=.fields #[.int (((n:Nat):Int)-1) t,.int (-1) u,.int (-1) v]}).objs.size],_,_,H,rfl,
  a.kept (t':=tk) fun b o e=>Heap.get?_push_of_some _ e,UI _ n,?_,fun b d=>?_,q⟩
 ·show IsRangeIter _ _ ((((n:Nat):Int)-1)+((0:Nat):Int)*(-1)) ((n:Int)-((0:Nat):Int)) (-1)
  rw[show(((n:Nat):Int)-1)+((0:Nat):Int)*(-1)=((n:Nat):Int)-1 by simp,show(n:Int)-((0:Nat):Int)=n by simp]
  exact Heap.get?_push_size _ rfl
 ·have e:b=(s.heap.push {cls:=.type "range",data:=.fields #[.int (((n:Nat):Int)-1) t,.int (-1) u,.int (-1) v]}).objs.size:=by simpa using d
  subst e
  exact a.QR (Nat.le_refl _) (a.BO.fresh (Nat.le_refl _))
def gO (a:TA):TI:=fun b H R=>a b H fun c d=>∃n:Nat,c=[.int (((n:Nat):Int)-1),.int (-1),.int (-1)]/\n<=1000/\R (eB n) d
theorem UJ {a b c:Expr} {i:TA} {p pos:Pos} (j:Gl X "range") (k:X.mg "range"=none) (l:PA X [a,b,c] i) (m:starEach [a,b,c] X.env=[(false,eval a X.env),(false,eval b X.env),(false,eval c X.env)]:=by rfl) (d:starEach [b,c] X.env=[(false,eval b X.env),(false,eval c X.env)]:=by rfl):
  PI X tg (.Call (.Name "range" p) [a,b,c] [] pos) (gO i):=by
 intro pins s o H R I h
 refine Call_ (Ec I j k boot_range (PyProof.Rows.callWith_type1 (Bo (l pos pins s o H _ I h) fun B C u=>u.elim fun D E v w x=>?_) (by rw[m,d]) (by rw[d];rfl)))
 obtain⟨n,e,y,q⟩:=x
 subst e
 cases w with
 |cons r f=>
  cases f with
  |cons z f=>
   cases f with
   |cons g f=>
    cases f
    obtain⟨t,rfl⟩:=r
    obtain⟨F,rfl⟩:=z
    obtain⟨A,rfl⟩:=g
    exact call_range_3 (by decide) (Yj v y q) (.inl (PyProof.noPylong_small (by lia)))
end
theorem WT {n:Nat} {g:TG} {f:TS} {D:Ends} {σ:St} {H:Hp} (Pv:Nat->St->Hp->Prop) (j:Pv n σ H)
  (k:∀i σ H,i<n->Pv (i+1) σ H->g (.int (i:Int)) σ H fun a H2=>f {D with nx:=Pv i,ct:=Pv i,bk:=D.nx} a H2) (l:∀σ H,Pv 0 σ H->D.nx σ H):
  ∃W:Nat->Nat->St->Hp->Prop,(∃m,W 0 m σ H)/\∀i m σ H,W i m σ H->
   ((eB n).stop i H/\D.nx σ H)∨((eB n).go i H/\∃N:St->Hp->Prop,(∀b c,N b c->∃h,h<m/\W (i+1) h b c)/\∀x c,(eB n).TN i H x c->g x σ c fun a H2=>f {D with nx:=N,ct:=N,bk:=D.nx} a H2):=by
 refine⟨fun i m σ H=>m=n-i/\i<=n/\Pv m σ H,⟨n,by simp,Nat.zero_le _,j⟩,?_⟩
 rintro i m σ H ⟨rfl,q,p⟩
 by_cases d:i<n
 ·refine .inr ⟨d,Pv (n-(i+1)),fun b c o=>⟨n-(i+1),by lia,rfl,d,o⟩,fun x c y=>?_⟩
  obtain⟨e,y⟩:=y
  subst e y
  have e:((n:Nat):Int)-1-((i:Nat):Int)=(((n-(i+1):Nat)):Int):=by lia
  rw[e]
  refine k (n-(i+1)) σ _ (by lia) ?_
  rw[show n-(i+1)+1=n-i by lia]
  exact p
 ·have e:i=n:=by lia
  subst e
  rw[Nat.sub_self]at p
  exact .inl ⟨Nat.le_refl _,l σ H p⟩
section
variable{K:ACh} [BA K]
namespace Dc
mutual
def tr:Dc->Pt
 |leaf (.int i)=>.int i
 |leaf (.str x)=>.str x
 |leaf _=>.int 0
 |row _ xs=>.lst (UK xs)
 |tab _ ks xs=>.BM ks (UK xs)
def UK:List Dc->List Pt
 |[]=>[]
 |x::r=>tr x::UK r
end
theorem G':∀xs:List Dc,UK xs=xs.map tr
 |[]=>rfl
 |x::r=>by simp only[UK,List.map_cons,G' r]
mutual
theorem Sa:∀d e:Dc,Dd d e->e.tr=d.tr
 |leaf v,leaf w,h=>by simp only[Dd]at h;subst h;rfl
 |row _ xs,row _ ys,h=>by simp only[Dd]at h;simp only[tr,KS xs ys h]
 |tab _ ks xs,tab _ ls ys,h=>by simp only[Dd]at h;simp only[tr,KS xs ys h.2,h.1]
 |leaf _,row _ _,h=>by simp[Dd]at h
 |leaf _,tab _ _ _,h=>by simp[Dd]at h
 |row _ _,leaf _,h=>by simp[Dd]at h
 |row _ _,tab _ _ _,h=>by simp[Dd]at h
 |tab _ _ _,leaf _,h=>by simp[Dd]at h
 |tab _ _ _,row _ _,h=>by simp[Dd]at h
theorem KS:∀xs ys:List Dc,Cp xs ys->UK ys=UK xs
 |[],[],_=>rfl
 |x::r,y::t,h=>by simp only[Cp]at h;simp only[UK,Sa x y h.1,KS r t h.2]
 |[],_::_,h=>by simp[Cp]at h
 |_::_,[],h=>by simp[Cp]at h
end
mutual
theorem WU {H:Hp}:∀d:Dc,d.At H->Val H d.val d.tr
 |leaf v,h=>by
  simp only[At]at h
  rcases h with⟨i,rfl⟩|⟨x,rfl,_⟩
  ·exact .int i
  ·exact .str x
 |row a xs,h=>by
  simp only[At]at h
  exact .lst h.1 (RB xs h.2)
 |tab a ks xs,h=>by
  simp only[At]at h
  refine .BM h.1 (Jq h.2.1) ?_
  have e:(kvs ks xs).map (·.2)=xs.map val:=by
   rw[Od]
   exact CY (by rw[List.length_map];exact h.2.1)
  rw[e]
  exact RB xs h.2.2.2
theorem RB {H:Hp}:∀xs:List Dc,Hu H xs->Aa H (xs.map val) (UK xs)
 |[],_=>.nil
 |x::r,h=>by
  simp only[Hu]at h
  exact .cons (WU x h.1) (RB r h.2)
end
end Dc
theorem Jy.val {H a:Hp} {d:Dc} (F:Jy H a d):Val (nw H a) d.val d.tr:=by
 refine d.WU (Dc.Jp d (fun c b o e=>?_) F.at_)
 rw[Al (F.new c b)]
 exact e
theorem WV:∀{kvs:List (Key×V)} {ks:List Str} {ds:List Dc},kvs.map (·.1)=ks.map Sum.inr->ds.map Dc.val=kvs.map (·.2)->kvs=Dc.kvs ks ds
 |[],[],ds,_,h=>by
  cases ds with
  |nil=>rfl
  |cons _ _=>simp at h
 |[],_::_,_,h,_=>by simp at h
 |_::_,[],_,h,_=>by simp at h
 |(k,v)::kvs,y::ks,ds,h,h'=>by
  simp only[List.map_cons,List.cons.injEq]at h
  cases ds with
  |nil=>simp at h'
  |cons d ds=>
   simp only[List.map_cons,List.cons.injEq]at h'
   obtain⟨a,b⟩:=h
   obtain⟨c,e⟩:=h'
   have f:=WV b e
   subst a c
   rw[f]
   rfl
mutual
theorem Val.dc {H:Hp}:∀(t:Pt) {v:V},Val H v t->t.doc->∃d:Dc,d.val=v/\d.At H/\d.tr=t/\d.slim/\d.size=t.size
 | .int i,_,.int _,_=>⟨.leaf (.int i),rfl,.inl ⟨i,rfl⟩,rfl,trivial,rfl⟩
 | .str x,_,.str _,d=>⟨.leaf (.str x),rfl,.inr ⟨x,rfl,d⟩,rfl,trivial,rfl⟩
 | .bl _,_,_,d=>by simp[Pt.doc]at d
 | .tup _,_,_,d=>by simp[Pt.doc]at d
 | .lst ts,_,.lst (a:=a) h r,d=>by
  simp only[Pt.doc]at d
  obtain⟨b,e,f,c,g,j⟩:=Aa.lg ts r d
  refine⟨.row a b,rfl,?_,by simp only[Dc.tr,c],by simp only[Dc.slim];exact g,by simp only[Dc.size,Pt.size,j]⟩
  simp only[Dc.At]
  exact⟨by rw[e];exact h,f⟩
 | .BM k ts,_,.BM (a:=a) (kvs:=kvs) h m r,d=>by
  simp only[Pt.doc]at d
  obtain⟨b,e,f,c,g,j⟩:=Aa.lg ts r d.2.2.2.2
  have l:k.length=b.length:=by
   have:=congrArg List.length c
   rw[Dc.G',List.length_map]at this
   rw[this];exact d.1
  refine⟨.tab a k b,rfl,?_,by simp only[Dc.tr,c],by simp only[Dc.slim];exact⟨by rw[<-l];exact d.2.2.2.1,g⟩,by simp only[Dc.size,Pt.size,j]⟩
  simp only[Dc.At]
  exact⟨by rw[<-WV m e];exact h,l,d.2.1,f⟩
theorem Aa.lg {H:Hp}:∀(ts:List Pt) {vs:List V},Aa H vs ts->Pt.CU ts->∃ds:List Dc,ds.map Dc.val=vs/\Dc.Hu H ds/\Dc.UK ds=ts/\Dc.Jt ds/\Dc.AI ds=Pt.AI ts
 |[],_,.nil,_=>⟨[],rfl,trivial,rfl,trivial,rfl⟩
 |t::ts,_,.cons h r,d=>by
  simp only[Pt.CU]at d
  obtain⟨x,a1,a2,a3,a4,a5⟩:=Val.dc t h d.1
  obtain⟨ds,a,b,c,e,f⟩:=Aa.lg ts r d.2
  exact⟨x::ds,by rw[List.map_cons,a1,a],by simp only[Dc.Hu];exact⟨a2,b⟩,by simp only[Dc.UK,a3,c],by simp only[Dc.Jt];exact⟨a4,e⟩,by simp only[Dc.AI,Pt.AI,a5,f]⟩
end
theorem O' {vs:List V} {H:Hp} {Q:VK} {E:XK} {v:V} {t:Pt} (e:vs=[v]) (b:Val H v t) (d:t.doc) (z:t.size<=900) (q:∀(w:V) (a:Hp),AG H a->Val (nw H a) w t->Q w a):Gu vs H Q E:=by
 obtain⟨dc,rfl,a2,a3,a4,a5⟩:=Val.dc t b d
 exact⟨dc,e,a2,a4,by lia,fun c a F lk=>q _ _ F.same (by rw[<-a3,<-Dc.Sa _ _ lk];exact F.val)⟩
theorem PB {vs:List V} {H:Hp} {Q:VK} {E:XK} (h:JQ vs H Q E):FV vs H Q E:=by
 obtain⟨d,rfl,b,e,f,q⟩:=h
 refine⟨d.val,d.tr,rfl,d.WU b,?_,fun p l g s n j st=>q p l g s n j ?_⟩
 ·cases d with
  |leaf v=>
   simp only[Dc.At]at b
   rcases b with⟨i,rfl⟩|⟨x,rfl,_⟩<;>trivial
  |row a c=>
   simp only[Dc.size]at f
   have:=Dc.Cm c
   show(Dc.UK c).length<=900
   rw[Dc.G',List.length_map];lia
  |tab a k c=>
   simp only[Dc.At]at b
   simp only[Dc.slim]at e
   exact⟨by rw[Dc.G',List.length_map];exact b.2.1,by rw[b.2.1];exact e.1⟩
 ·cases d with
  |leaf v=>
   simp only[Dc.At]at b
   rcases b with⟨i,rfl⟩|⟨x,rfl,_⟩<;>exact st
  |row a c=>
   have:l=(List.range (Dc.UK c).length).map fun(i:Nat)=>V.int (i:Int):=st
   rw[Dc.G',List.length_map]at this
   exact this
  |tab a k c=>exact st
end
namespace Ak
mutual
def Bu:Ak->Prop
 |any=>True
 |Ac d=>d.doc
 |row xs _=>Es xs
 |tab ks xs ls _=>ks.length=xs.length/\ks.Nodup/\(∀k∈ks,CL k=true)/\ks.length<60/\ls.length<=100/\(∀l∈ls,l∉ks)/\Es xs
def Es:List Ak->Prop
 |[]=>True
 |x::r=>Bu x/\Es r
end
mutual
def wt:Ak->Nat
 |any=>1
 |Ac d=>d.size
 |row xs _=>1+Hv xs
 |tab _ xs _ _=>1+Hv xs
def Hv:List Ak->Nat
 |[]=>0
 |x::r=>wt x+Hv r
end
mutual
def dp:Ak->Nat
 |any=>1
 |Ac d=>d.deep
 |row xs _=>1+Ii xs
 |tab _ xs _ _=>1+Ii xs
def Ii:List Ak->Nat
 |[]=>0
 |x::r=>max (dp x) (Ii r)
end
theorem Au:∀{xs:List Ak},Es xs->∀x∈xs,Bu x
 |y::r,h,x,a=>by
  simp only[Es]at h
  rcases List.mem_cons.mp a with rfl|a
  ·exact h.1
  ·exact Au h.2 x a
mutual
theorem HS:∀a:Ak,a.size<=a.wt
 |any=>by simp[size,wt]
 |Ac d=>by simp only[size,wt];exact Pt.size_pos d
 |row xs _=>by have:=EW xs;simp only[size,wt];lia
 |tab _ xs _ _=>by have:=EW xs;simp only[size,wt];lia
theorem EW:∀xs:List Ak,AI xs<=Hv xs
 |[]=>Nat.le_refl _
 |x::r=>by have:=HS x;have:=EW r;simp only[AI,Hv];lia
end
theorem HU:∀{xs:List Ak} {x:Ak},x∈xs->x.wt<=Hv xs
 |y::r,x,h=>by
  simp only[Hv]
  rcases List.mem_cons.mp h with rfl|h
  ·lia
  ·have:=HU h;lia
theorem HV:∀{xs:List Ak} {x:Ak},x∈xs->x.dp<=Ii xs
 |y::r,x,h=>by
  simp only[Ii]
  rcases List.mem_cons.mp h with rfl|h
  ·lia
  ·have:=HV h;lia
theorem KU {a b:List Ak} (p:a.Perm b):Hv a=Hv b:=by
 induction p with
 |nil=>rfl
 |cons x _ c=>simp only[Hv,c]
 |swap x y l=>simp only[Hv];lia
 |trans _ _ d e=>exact d.trans e
theorem KW {a b:List Ak} (p:a.Perm b):Ii a=Ii b:=by
 induction p with
 |nil=>rfl
 |cons x _ c=>simp only[Ii,c]
 |swap x y l=>simp only[Ii];lia
 |trans _ _ d e=>exact d.trans e
mutual
theorem gP:∀a:Ak,a.ok->a.Bu
 |any,_=>trivial
 |Ac d,h=>by simp only[ok]at h;exact h.2.1
 |row xs _,h=>by simp only[ok]at h;simp only[Bu];exact WW xs h
 |tab ks xs ls _,h=>by
  simp only[ok]at h
  obtain⟨b,c,e,h4,f,g,i⟩:=h
  simp only[Bu]
  exact⟨b,c,e,h4,Nat.le_trans f.1 (by decide),g,WW xs i⟩
theorem WW:∀xs:List Ak,IE xs->Es xs
 |[],_=>trivial
 |x::r,h=>by simp only[IE]at h;exact⟨gP x h.1,WW r h.2⟩
end
mutual
theorem aF:∀a:Ak,a.ok->a.wt<=10*a.size
 |any,_=>by simp[wt,size]
 |Ac d,h=>by simp only[ok]at h;simp only[wt,size];lia
 |row xs _,h=>by simp only[ok]at h;have:=RC xs h;simp only[wt,size];lia
 |tab b xs c _,h=>by simp only[ok]at h;have:=RC xs h.2.2.2.2.2.2;simp only[wt,size];lia
theorem RC:∀xs:List Ak,IE xs->Hv xs<=10*AI xs
 |[],_=>Nat.le_refl _
 |x::r,h=>by simp only[IE]at h;have:=aF x h.1;have:=RC r h.2;simp only[Hv,AI];lia
end
end Ak
theorem Sm.gQ {d:Pt} (h:Sm d):d.deep<=3:=by
 have one:∀a:List Pt,(∀x∈a,UD x)->Pt.AW a<=1:=by
  intro a
  induction a with
  |nil=>intro _;simp[Pt.AW]
  |cons x r b=>
   intro h
   have c:=h x List.mem_cons_self
   have f:=b fun y e=>h y (List.mem_cons_of_mem _ e)
   have:x.deep<=1:=by cases c<;>simp[Pt.deep,Pt.AW]
   simp only[Pt.AW];lia
 cases h with
 |one h=>cases h<;>simp[Pt.deep,Pt.AW]
 |row h=>have:=one _ h;simp only[Pt.deep];lia
 |tab h=>have:=one _ h;simp only[Pt.deep];lia
namespace Ak
mutual
theorem aG:∀a:Ak,a.ok->a.dp<=a.deep+2
 |any,_=>by simp[dp,deep]
 |Ac d,h=>by simp only[ok]at h;have:=h.1.gQ;simp only[dp,deep];lia
 |row b _,h=>by simp only[ok]at h;have:=RD b h;simp only[dp,deep];lia
 |tab c b e _,h=>by simp only[ok]at h;have:=RD b h.2.2.2.2.2.2;simp only[dp,deep];lia
theorem RD:∀xs:List Ak,IE xs->Ii xs<=AW xs+2
 |[],_=>by simp[Ii]
 |x::r,h=>by simp only[IE]at h;have:=aG x h.1;have:=RD r h.2;simp only[Ii,AW];lia
end
theorem MA:∀ls:List Str,Pt.AW (ls.map Pt.str)<=1
 |[]=>by simp[Pt.AW]
 |x::r=>by have:=MA r;simp only[List.map_cons,Pt.AW,Pt.deep];lia
mutual
theorem PD:∀a:Ak,a.pt.deep<=2*a.dp+2
 |any=>by simp[pt,Pt.deep,Pt.AW,dp]
 |Ac d=>by simp only[pt,Pt.deep,Pt.AW,dp];lia
 |row xs m=>by have:=RE xs;simp only[pt,Pt.deep,Pt.AW,dp];lia
 |tab c xs b m=>by have:=RE xs;have:=MA b;simp only[pt,Pt.deep,Pt.AW,dp];lia
theorem RE:∀xs:List Ak,Pt.AW (D' xs)<=2*Ii xs+2
 |[]=>by simp[D',Pt.AW]
 |x::r=>by have:=PD x;have:=RE r;simp only[D',Pt.AW,Ii];lia
end
mutual
theorem HW:∀a:Ak,a.Bu->a.wt<=900->a.pt.nice
 | .any,_,_=>by simp[Ak.pt,Pt.nice,Pt.DK]
 | .Ac d,o,z=>by
  simp only[Bu]at o
  simp only[wt]at z
  simp only[Ak.pt,Pt.nice,Pt.DK]
  exact⟨by simp,trivial,Pt.Gz d o z,trivial⟩
 | .row xs m,o,z=>by
  simp only[Bu]at o
  simp only[wt]at z
  have:=Ak.Cm xs
  have:=EW xs
  simp only[Ak.pt,Pt.nice,Pt.DK]
  exact⟨by simp,trivial,⟨by rw[Ak.BG,List.length_map];lia,IS xs o (by lia)⟩,trivial,trivial⟩
 | .tab c xs e m,o,z=>by
  simp only[Bu]at o
  simp only[wt]at z
  simp only[Ak.pt,Pt.nice,Pt.DK]
  refine⟨by simp,trivial,⟨by rw[Ak.BG,List.length_map];exact o.1,o.2.1,by lia,IS xs o.2.2.2.2.2.2 (by lia)⟩,⟨by rw[List.length_map];lia,Pt.Ou fun x b=>?_⟩,trivial,trivial⟩
  obtain⟨y,_,rfl⟩:=List.mem_map.mp b
  trivial
theorem IS:∀xs:List Ak,Es xs->Hv xs<=900->Pt.DK (Ak.D' xs)
 |[],_,_=>trivial
 |x::r,o,z=>by
  simp only[Es]at o
  simp only[Hv]at z
  simp only[Ak.D',Pt.DK]
  exact⟨HW x o.1 (by lia),IS r o.2 (by lia)⟩
end
def Kd:Ak->List Ak->Prop
 |row xs _,as=>as=xs
 |tab ks xs _ _,as=>∃ss:List Str,ss.Perm ks/\sortedS ss=true/\ss.map (lk ks xs)=as.map some
 |_,as=>as=[]
end Ak
theorem some_inj {c:Type}:∀{a b:List c},a.map some=b.map some->a=b
 |[],[],_=>rfl
 |[],_::_,h=>by simp at h
 |_::_,[],h=>by simp at h
 |x::r,y::q,h=>by
  simp only[List.map_cons,List.cons.injEq]at h
  rw[ACf h.1,some_inj h.2]
namespace Ak
theorem Kd.one {a:Ak} {as bs:List Ak} (h:Kd a as) (h':Kd a bs):as=bs:=by
 cases a with
 |row b m=>exact(show as=b from h).trans (show bs=b from h').symm
 |tab k b l m=>
  obtain⟨n,c,e,f⟩:=h
  obtain⟨o,g,i,j⟩:=h'
  have:=CN e i (c.trans g.symm)
  subst this
  exact some_inj (f.symm.trans j)
 |any=>exact(show as=[]from h).trans (show bs=[]from h').symm
 |Ac d=>exact(show as=[]from h).trans (show bs=[]from h').symm
theorem Kd.ok {a:Ak} {as:List Ak} (h:Kd a as) (o:a.Bu):∀x∈as,x.Bu:=by
 cases a with
 |row c m=>simp only[Bu]at o;rw[show as=c from h];exact Au o
 |tab g c i m=>
  simp only[Bu]at o
  obtain⟨j,e,k,f⟩:=h
  intro x b
  have:=(Bx o.1 o.2.1 e f).mem_iff.mp b
  exact Au o.2.2.2.2.2.2 x this
 |any=>rw[show as=[]from h];exact fun x b=>nomatch b
 |Ac d=>rw[show as=[]from h];exact fun x b=>nomatch b
theorem Kd.size {a:Ak} {as:List Ak} (h:Kd a as) (o:a.Bu):a.size=1+AI as:=by
 cases a with
 |row b m=>rw[show as=b from h];rfl
 |tab f b g m=>
  simp only[Bu]at o
  obtain⟨i,c,j,e⟩:=h
  have:=Ej (Bx o.1 o.2.1 c e)
  simp only[Ak.size];lia
 |any=>rw[show as=[]from h];rfl
 |Ac d=>rw[show as=[]from h];rfl
theorem Kd.wt {a:Ak} {as:List Ak} (h:Kd a as) (o:a.Bu):∀x∈as,x.wt<=a.wt:=by
 cases a with
 |row c m=>rw[show as=c from h];intro x b;have:=HU b;simp only[Ak.wt];lia
 |tab g c i m=>
  simp only[Bu]at o
  obtain⟨j,e,k,f⟩:=h
  intro x b
  have:=HU ((Bx o.1 o.2.1 e f).mem_iff.mp b)
  simp only[Ak.wt];lia
 |any=>rw[show as=[]from h];exact fun x b=>nomatch b
 |Ac d=>rw[show as=[]from h];exact fun x b=>nomatch b
def CI:List Ak->Option (List Pt)
 |[]=>some []
 |Ac d::r=>(CI r).map (d::·)
 |_::_=>none
def BP (cs:List Ak) (m:Bool):Ak:=if m then row cs true else match CI cs with
 |some a=>Ac (.lst a)
 |none=>row cs false
def BH (ss:List Str) (cs:List Ak) (ls:List Str) (m:Bool):Ak:=if m then tab ss cs ls true else match CI cs with
 |some a=>Ac (.BM ss a)
 |none=>tab ss cs [] false
mutual
inductive Good:Ak->Ak->Prop
 |any:Good .any .any
 |Ac (d:Pt):Good (.Ac d) (.Ac d)
 |row {xs cs:List Ak} {m:Bool} (h:B' xs cs):Good (.row xs m) (BP cs m)
 |tab {ks ss:List Str} {xs as cs:List Ak} {ls:List Str} {m:Bool} (a:ss.Perm ks) (b:sortedS ss=true) (e:ss.map (lk ks xs)=as.map some) (h:B' as cs):Good (.tab ks xs ls m) (BH ss cs ls m)
inductive B':List Ak->List Ak->Prop
 |nil:B' [] []
 |cons {x y:Ak} {xs ys:List Ak} (h:Good x y) (r:B' xs ys):B' (x::xs) (y::ys)
end
theorem B'.length:∀{xs ys:List Ak},B' xs ys->xs.length=ys.length
 |_,_,.nil=>rfl
 |_,_,.cons _ r=>by rw[List.length_cons,List.length_cons,r.length]
theorem Bn:∀{cs:List Ak} {ds:List Pt},CI cs=some ds->cs=ds.map Ac
 |[],ds,h=>by simp only[CI]at h;cases h;rfl
 |Ac d::r,ds,h=>by
  simp only[CI]at h
  cases e:CI r with
  |none=>rw[e]at h;cases h
  |some es=>
   rw[e]at h
   cases h
   rw[Bn e]
   rfl
 |any::_,_,h=>by simp[CI]at h
 |row _ _::_,_,h=>by simp[CI]at h
 |tab _ _ _ _::_,_,h=>by simp[CI]at h
theorem Fb:∀ds:List Pt,Hv (ds.map Ac)=Pt.AI ds
 |[]=>rfl
 |d::r=>by simp only[List.map_cons,Hv,wt,Pt.AI,Fb r]
theorem Fc:∀ds:List Pt,Ii (ds.map Ac)=Pt.AW ds
 |[]=>rfl
 |d::r=>by simp only[List.map_cons,Ii,dp,Pt.AW,Fc r]
theorem KX:∀ds:List Pt,Es (ds.map Ac)->Pt.CU ds
 |[],_=>trivial
 |d::r,h=>by simp only[List.map_cons,Es,Bu]at h;exact⟨h.1,KX r h.2⟩
theorem RF (cs:List Ak) (m:Bool):(BP cs m).wt=1+Hv cs:=by
 unfold BP
 split
 ·rfl
 ·split
  ·rename_i a e
   rw[Bn e,Fb]
   rfl
  ·rfl
theorem RG (ss:List Str) (cs:List Ak) (ls:List Str) (m:Bool):(BH ss cs ls m).wt=1+Hv cs:=by
 unfold BH
 split
 ·rfl
 ·split
  ·rename_i a e
   rw[Bn e,Fb]
   rfl
  ·rfl
theorem RH (cs:List Ak) (m:Bool):(BP cs m).dp=1+Ii cs:=by
 unfold BP
 split
 ·rfl
 ·split
  ·rename_i a e
   rw[Bn e,Fc]
   rfl
  ·rfl
theorem RI (ss:List Str) (cs:List Ak) (ls:List Str) (m:Bool):(BH ss cs ls m).dp=1+Ii cs:=by
 unfold BH
 split
 ·rfl
 ·split
  ·rename_i a e
   rw[Bn e,Fc]
   rfl
  ·rfl
theorem RJ {cs:List Ak} (m:Bool) (h:Es cs):(BP cs m).Bu:=by
 unfold BP
 split
 ·exact h
 ·split
  ·rename_i a e
   rw[Bn e]at h
   exact KX a h
  ·exact h
theorem RK {ss:List Str} {cs:List Ak} {ls:List Str} (m:Bool) (l:ss.length=cs.length) (nd:ss.Nodup) (a:∀k∈ss,CL k=true) (sz:ss.length<60) (b:ls.length<=100) (c:∀l∈ls,l∉ss) (h:Es cs):(BH ss cs ls m).Bu:=by
 unfold BH
 split
 ·exact⟨l,nd,a,sz,b,c,h⟩
 ·split
  ·rename_i d e
   rw[Bn e]at h l
   rw[List.length_map]at l
   simp only[Bu,Pt.doc]
   exact⟨l,nd,a,by lia,KX d h⟩
  ·exact⟨l,nd,a,sz,by simp,(fun l f=>by simp at f),h⟩
mutual
theorem Good.keeps:∀{a b:Ak},Good a b->a.Bu->b.Bu/\b.wt=a.wt/\b.dp=a.dp
 |_,_,.any,_=>⟨trivial,rfl,rfl⟩
 |_,_,.Ac d,h=>⟨h,rfl,rfl⟩
 |_,_,.row (xs:=xs) (m:=m) h,o=>by
  simp only[Bu]at o
  obtain⟨f,g,i⟩:=h.keeps (Au o)
  refine⟨RJ _ f,?_,?_⟩
  ·rw[RF,g];rfl
  ·rw[RH,i];rfl
 |_,_,.tab (ks:=ks) (ss:=ss) (xs:=xs) (as:=as) (ls:=ls) c B e h,o=>by
  simp only[Bu]at o
  obtain⟨p,n,q,r,s,t,u⟩:=o
  have j:=Bx p n c e
  obtain⟨f,g,i⟩:=h.keeps fun x v=>Au u x (j.mem_iff.mp v)
  have w:as.length=ss.length:=by have:=congrArg List.length e;simpa using this.symm
  refine⟨RK _ (by rw[<-h.length,w]) (c.nodup_iff.mpr n) (fun k y=>q k (c.mem_iff.mp y)) (by rw[c.length_eq];exact r) s (fun l A z=>t l A (c.mem_iff.mp z)) f,?_,?_⟩
  ·rw[RG,g,KU j];rfl
  ·rw[RI,i,KW j];rfl
theorem B'.keeps:∀{as bs:List Ak},B' as bs->(∀a∈as,a.Bu)->Es bs/\Hv bs=Hv as/\Ii bs=Ii as
 |_,_,.nil,_=>⟨trivial,rfl,rfl⟩
 |_,_,.cons h r,o=>by
  obtain⟨b,c,d⟩:=h.keeps (o _ List.mem_cons_self)
  obtain⟨e,f,g⟩:=r.keeps fun x i=>o x (List.mem_cons_of_mem _ i)
  exact⟨⟨b,e⟩,by simp only[Hv,c,f],by simp only[Ii,d,g]⟩
end
end Ak
structure Yk (root:Ak) (n:Nat) (l:List Ak) (gR:List (List Ak)):Prop where
 len:gR.length=n
 eq:l=root::gR.flatten
 kids:∀(j:Nat) a ks,l[j]?=some a->gR[j]?=some ks->Ak.Kd a ks
 ok:∀a∈l,a.Bu/\a.wt<=root.wt
 sum:n+Ak.AI (l.drop n)=root.size
 pos:∀j,j<n->j<=(gR.take j).flatten.length
theorem Yk.start {a:Ak} (o:a.Bu):Yk a 0 [a] []:=⟨rfl,rfl,fun j a c _ h=>by simp at h,fun x b=>by rw[List.mem_singleton.mp b];exact⟨o,Nat.le_refl _⟩,by simp[Ak.AI],fun j h=>by lia⟩
theorem Yk.next {root:Ak} {n:Nat} {l:List Ak} {c:List (List Ak)} (b:Yk root n l c) {a:Ak} (d:l[n]?=some a) {ks:List Ak} (g:Ak.Kd a ks):Yk root (n+1) (l++ks) (c++[ks]):=by
 obtain⟨p,q,t,r,s,u⟩:=b
 have i:=(ACe d).1
 have o:=r a (ACg d)
 refine⟨by simp[p],by rw[q];simp,fun j x k m f=>?_,fun x v=>?_,?_,fun j w=>?_⟩
 ·by_cases w:j<n
  ·rw[List.getElem?_append_left (by lia)]at m f
   exact t j x k m f
  ·have:=(ACe f).1
   rw[List.length_append,List.length_singleton]at this
   have e:j=n:=by lia
   subst e
   rw[List.getElem?_append_left i,d]at m
   rw[List.getElem?_append_right (by lia),p,Nat.sub_self]at f
   cases m
   have:ks=k:=by simpa using f
   subst this
   exact g
 ·rcases List.mem_append.mp v with h|h
  ·exact r x h
  ·have:=g.wt o.1 x h
   exact⟨g.ok o.1 x h,by lia⟩
 ·have y:l.drop n=a::l.drop (n+1):=by
   rw[List.drop_eq_getElem_cons i]
   rw[ACd i]at d
   rw[ACf d]
  have sz:=g.size o.1
  rw[y]at s
  simp only[Ak.AI]at s
  rw[List.drop_append_of_le_length (by lia),Ak.Ai]
  lia
 ·by_cases h:j<n
  ·rw[List.take_append_of_le_length (by lia)]
   exact u j h
  ·have e:j=n:=by lia
   subst e
   rw[List.take_append_of_le_length (by lia),List.take_of_length_le (by lia)]
   rw[q,List.length_cons]at i
   lia
theorem Yk.at_ {root:Ak} {l:List Ak} {a:List (List Ak)} (b:Yk root l.length l a) {j:Nat} {ks:List Ak} (c:a[j]?=some ks):j<1+(a.take j).flatten.length/\(l.drop (1+(a.take j).flatten.length)).take ks.length=ks/\1+(a.take (j+1)).flatten.length=1+(a.take j).flatten.length+ks.length/\1+(a.take j).flatten.length+ks.length<=l.length:=by
 have d:=(ACe c).1
 have f:a=a.take j++ks::a.drop (j+1):=by
  have:a.drop j=ks::a.drop (j+1):=by
   rw[List.drop_eq_getElem_cons d]
   rw[ACd d]at c
   rw[ACf c]
  rw[<-this,List.take_append_drop]
 have e:l=root::((a.take j).flatten++(ks++(a.drop (j+1)).flatten)):=by
  have:=b.eq
  rw[f]at this
  rw[this]
  simp
 have g:a.take (j+1)=a.take j++[ks]:=by rw[List.take_add_one,c];rfl
 refine⟨?_,?_,?_,?_⟩
 ·have:=b.pos j (by rw[<-b.len];exact d)
  lia
 ·have:l.drop (1+(a.take j).flatten.length)=ks++(a.drop (j+1)).flatten:=by
   rw[show 1+(a.take j).flatten.length=(a.take j).flatten.length+1 by lia]
   conv=>lhs;rw[e]
   rw[List.drop_succ_cons,List.drop_left]
  rw[this,List.take_left']
  rfl
 ·rw[g]
  simp
  lia
 ·rw[e]
  simp
  lia
def Pt.hold:Pt->Pt
 | .tup (.str w::h::_)=>if w="row"∨w="table"then h else .lst []
 |_=>.lst []
mutual
inductive QH:Nat->Pt->Prop
 |leaf {w:Str} {r:List Pt} (a:w≠"row") (b:w≠"table"):QH 1 (.tup (.str w::r))
 |row {n:Nat} {xs r:List Pt} (h:EX n xs):QH (n+1) (.tup (.str "row"::.lst xs::r))
 |tab {n:Nat} {ks:List Str} {xs r:List Pt} (l:ks.length=xs.length) (nd:ks.Nodup) (z:ks.length<64) (h:EX n xs):QH (n+1) (.tup (.str "table"::.BM ks xs::r))
inductive EX:Nat->List Pt->Prop
 |nil:EX 0 []
 |cons {n m:Nat} {x:Pt} {r:List Pt} (h:QH n x) (t:EX m r):EX (n+m) (x::r)
end
theorem QH.pos {n:Nat} {t:Pt} (h:QH n t):1<=n:=by cases h<;>lia
theorem EX.len:∀{n:Nat} {xs:List Pt},EX n xs->xs.length<=n
 |_,_,.nil=>Nat.le_refl _
 |_,_,.cons h t=>by have:=h.pos;have:=t.len;rw[List.length_cons];lia
theorem EX.append:∀{n m:Nat} {xs ys:List Pt},EX n xs->EX m ys->EX (n+m) (xs++ys)
 |_,_,_,_,.nil,s=>by rw[Nat.zero_add];exact s
 |_,_,_,_,.cons h t,s=>by rw[Nat.add_assoc];exact .cons h (t.append s)
theorem EX.perm {n:Nat} {xs ys:List Pt} (p:xs.Perm ys) (h:EX n xs):EX n ys:=by
 induction p generalizing n with
 |nil=>exact h
 |cons x _ d=>cases h with|cons h t=>exact .cons h (d t)
 |swap x y l=>
  cases h with
  |cons h t=>
   cases t with
   |@cons a b _ _ e t=>
    rename_i c
    rw[show c+(a+b)=a+(c+b)by lia]
    exact .cons e (.cons h t)
 |trans _ _ f g=>exact g (f h)
theorem QH.Sb {n:Nat} {t:Pt} (h:QH n t) (z:n<=900):Ig t.hold:=by
 cases h with
 |@leaf w r b c=>
  have e:Pt.hold (.tup (.str w::r))=.lst []:=by
   cases r with
   |nil=>rfl
   |cons h r=>simp[Pt.hold,b,c]
  rw[e]
  exact Nat.zero_le _
 |@row n a r h=>have:=h.len;show Ig (.lst a);exact show a.length<=900 by lia
 |@tab n f a r l nd d h=>exact⟨l,d⟩
theorem QH.kids {n:Nat} {t:Pt} {us:List Pt} (h:QH n t) (k:JF t.hold us):∃m,EX m us/\n=m+1:=by
 cases h with
 |@leaf w r d f=>
  have e:Pt.hold (.tup (.str w::r))=.lst []:=by
   cases r with
   |nil=>rfl
   |cons h r=>simp[Pt.hold,d,f]
  rw[e]at k
  rw[show us=[]from k]
  exact⟨0,.nil,rfl⟩
 |@row n b r h=>
  have:us=b:=k
  subst this
  exact⟨n,h,rfl⟩
 |@tab n c b r l nd z h=>
  obtain⟨a,g,i,e⟩:=(show∃a:List Str,a.Perm c/\sortedS a=true/\a.map (lk c b)=us.map some from k)
  exact⟨n,h.perm (Bx l nd g e).symm,rfl⟩
inductive UL (root:Pt):Nat->List Pt->List (List Pt)->Prop
 |start:UL root 0 [root] []
 |next{n:Nat} {l:List Pt} {a:List (List Pt)} {t:Pt} {us:List Pt} (b:UL root n l a) (c:l[n]?=some t) (k:JF t.hold us):UL root (n+1) (l++us) (a++[us])
theorem Yl {N n m:Nat} {l us:List Pt} {t:Pt} (h:EX m (l.drop n)) (e:n+m=N) (a:l[n]?=some t) (k:JF t.hold us) (z:N<=900):Ig t.hold/\us.length<=900/\∃b,b<m/\EX b ((l++us).drop (n+1))/\n+1+b=N:=by
 have c:=(ACe a).1
 have f:l.drop n=t::l.drop (n+1):=by
  rw[List.drop_eq_getElem_cons c]
  rw[ACd c]at a
  rw[ACf a]
 rw[f]at h
 cases h with
 |@cons j g _ _ h r=>
  obtain⟨i,d,o⟩:=h.kids k
  have:=d.len
  refine⟨h.Sb (by lia),by lia,g+i,by lia,?_,by lia⟩
  rw[List.drop_append_of_le_length (by lia)]
  exact r.append d
theorem gS {N n m:Nat} {l:List Pt} {t:Pt} (h:EX m (l.drop n)) (e:n+m=N) (a:l[n]?=some t) (z:N<=900):∃b,b<=900/\QH b t:=by
 have c:=(ACe a).1
 have d:l.drop n=t::l.drop (n+1):=by
  rw[List.drop_eq_getElem_cons c]
  rw[ACd c]at a
  rw[ACf a]
 rw[d]at h
 cases h with
 |@cons f g _ _ h r=>exact⟨f,by lia,h⟩
namespace Ak
mutual
theorem nd:∀a:Ak,a.Bu->QH a.size a.pt
 |any,_=>.leaf (by decide) (by decide)
 |Ac d,_=>.leaf (by decide) (by decide)
 |row xs m,o=>by
  simp only[Bu]at o
  simp only[size,pt]
  rw[Nat.add_comm]
  exact .row (lh xs o)
 |tab ks xs ls m,o=>by
  simp only[Bu]at o
  simp only[size,pt]
  rw[Nat.add_comm]
  exact .tab (by rw[BG,List.length_map];exact o.1) o.2.1 (by lia) (lh xs o.2.2.2.2.2.2)
theorem lh:∀xs:List Ak,Es xs->EX (AI xs) (D' xs)
 |[],_=>.nil
 |x::r,o=>by
  simp only[Es]at o
  exact .cons (nd x o.1) (lh r o.2)
end
theorem aH {a:Ak} {us:List Pt} (o:a.Bu) (k:JF a.pt.hold us):∃as,Kd a as/\us=as.map pt:=by
 cases a with
 |any=>exact⟨[],rfl,show us=[]from k⟩
 |Ac d=>
  have:us=[]:=by
   have h:JF (.lst []) us:=by
    have e:(Ak.Ac d).pt.hold=.lst []:=by simp only[pt,Pt.hold];exact if_neg (by decide)
    rw[e]at k
    exact k
   exact h
  exact⟨[],rfl,this⟩
 |row xs m=>exact⟨xs,rfl,by rw[<-BG];exact k⟩
 |tab c xs l m=>
  simp only[Bu]at o
  obtain⟨b,f,i,e⟩:=(show∃b:List Str,b.Perm c/\sortedS b=true/\b.map (lk c (D' xs))=us.map some from k)
  obtain⟨as,g⟩:=IK (xs:=xs) o.1 fun k j=>f.mem_iff.mp j
  refine⟨as,⟨b,f,i,g⟩,?_⟩
  refine some_inj (e.symm.trans ?_)
  rw[BG,List.map_map]
  have:b.map (lk c (xs.map pt))=(b.map (lk c xs)).map (Option.map pt):=by
   rw[List.map_map]
   exact List.map_congr_left fun k _=>FX pt
  rw[this,g,List.map_map]
  rfl
theorem WX {a:Ak} (o:a.Bu):∀{n:Nat} {l:List Pt} {f:List (List Pt)},UL a.pt n l f->∃as c,Yk a n as c/\l=as.map pt
 |_,_,_,.start=>⟨[a],[],Yk.start o,rfl⟩
 |_,_,_,.next (n:=n) (us:=us) b d k=>by
  obtain⟨as,c,B,rfl⟩:=WX o b
  rw[List.getElem?_map]at d
  cases e:as[n]? with
  |none=>rw[e]at d;cases d
  |some x=>
   rw[e]at d
   cases d
   obtain⟨g,k1,rfl⟩:=aH (B.ok x (ACg e)).1 k
   exact⟨as++g,c++[g],B.next e k1,by rw[List.map_append]⟩
end Ak
section
variable{K:ACh} [BA K]
theorem Bj.jZ {l a:Addr} {H c:Hp} {xs:List V} (h:Bj K (Du l H) a xs) (b:Bt (some l) H c):Bj K c a xs:=h.imp (fun r=>r.up fun o e=>by
 have d:a≠l:=fun z=>by unfold Du at e;rw[if_pos z]at e;cases e
 rw[EA d]at e
 exact b.keep _ _ (fun z=>d (ACf z).symm) e) id
theorem Val.node {H:Hp} {v:V} {n:Nat} {t:Pt} (h:Val H v t) (d:QH n t):∃(a:Addr) (w:Str) (rest:List V),v=.ref a/\Bj K H a (.str w::rest)/\((w≠"row"/\w≠"table"/\t.hold=.lst [])∨((w="row"∨w="table")/\∃u r,rest=u::r/\Val H u t.hold)):=by
 cases d with
 |@leaf w r e f=>
  cases h with
  |tup h q=>
   cases q with
   |cons b q=>
    cases b
    refine⟨_,w,_,rfl,h,.inl ⟨e,f,?_⟩⟩
    cases r with
    |nil=>rfl
    |cons h r=>simp[Pt.hold,e,f]
 |@row n g r d=>
  cases h with
  |tup h q=>
   cases q with
   |cons b q=>
    cases b
    cases q with
    |cons c q=>exact⟨_,"row",_,rfl,h,.inr ⟨.inl rfl,_,_,rfl,c⟩⟩
 |@tab n i g r l nd z d=>
  cases h with
  |tup h q=>
   cases q with
   |cons b q=>
    cases b
    cases q with
    |cons c q=>exact⟨_,"table",_,rfl,h,.inr ⟨.inr rfl,_,_,rfl,c⟩⟩
theorem HX {H:Hp}:∀zs:List Str,Aa H (zs.map V.str) (zs.map Pt.str)
 |[]=>.nil
 |z::r=>.cons (.str z) (HX r)
theorem Et {H:Hp}:∀{ls:List Str} {vs:List V},Aa H vs (ls.map Pt.str)->vs=ls.map V.str
 |[],_,h=>by cases h;rfl
 |x::r,_,h=>by
  cases h with
  |cons a b=>cases a;rw[List.map_cons,Et b]
structure Fd (H0 Hi:Hp) (as:List Ak) (ts:List V) (at_:Nat):Prop where
 len:ts.length=as.length
 val:∀(j:Nat) x,at_<=j->as[j]?=some x->∃w b,ts[j]?=some w/\Ak.Good x b/\Val (nw H0 Hi) w b.pt
theorem Fd.up {a c d:Hp} {as:List Ak} {ts:List V} {n:Nat} (f:Fd a c as ts n) (s:∀b o,a b=none->c b=some o->d b=some o):Fd a d as ts n:=⟨f.len,fun j x e g=>let⟨w,b,i,k,l⟩:=f.val j x e g;⟨w,b,i,k,l.up (BQ (fun _ h=>h) s)⟩⟩
theorem Fd.slice {a c:Hp} {as:List Ak} {ts:List V} {n:Nat} (f:Fd a c as ts n):∀(k s:Nat),n<=s->s+k<=as.length->∃cs,Ak.B' ((as.drop s).take k) cs/\Aa (nw a c) ((ts.drop s).take k) (cs.map Ak.pt)
 |0,s,_,_=>⟨[],by rw[List.take_zero];exact .nil,by rw[List.take_zero];exact .nil⟩
 |k+1,s,e,l=>by
  obtain⟨cs,g,h⟩:=f.slice k (s+1) (by lia) (by lia)
  have l1:s<as.length:=by lia
  have l2:s<ts.length:=by rw[f.len];exact l1
  obtain⟨w,b,d,i,j⟩:=f.val s as[s] e (ACd l1)
  rw[ACd l2]at d
  refine⟨b::cs,?_,?_⟩
  ·rw[List.drop_eq_getElem_cons l1,List.take_succ_cons]
   exact .cons i g
  ·rw[List.drop_eq_getElem_cons l2,List.take_succ_cons,List.map_cons,ACf d]
   exact .cons j h
theorem Fd.set {a h c:Hp} {as:List Ak} {ts:List V} {n:Nat} (f:Fd a h as ts (n+1)) (s:∀b o,a b=none->h b=some o->c b=some o) {x:Ak} (i:as[n]?=some x) {w:V} {b:Ak} (g:Ak.Good x b) (hw:Val (nw a c) w b.pt):Fd a c as (ts.set n w) n:=by
 refine⟨by rw[List.length_set,f.len],fun j y t d=>?_⟩
 have k:=(ACe i).1
 by_cases e:j=n
 ·subst e
  rw[i]at d
  cases d
  exact⟨w,b,by rw[List.getElem?_set_self (by rw[f.len];exact k)],g,hw⟩
 ·obtain⟨l,m,p,q,r⟩:=(f.up s).val j y (by lia) d
  exact⟨l,m,by rw[List.getElem?_set_ne (Ne.symm e)];exact p,q,r⟩
theorem PF (l:List V) (i j:Nat) (h:i<=j) (a:j<=l.length):GN l (some (i:Int)) (some (j:Int))=(l.drop i).take (j-i):=by
 unfold GN
 rw[HT.Rq,HT.Rq,Nat.min_eq_left a,Nat.min_eq_left (Nat.le_trans h a)]
inductive PH {K:ACh} [BA K] (vs:List V) (H:Hp) (Q:VK) (a:XK):Prop
 |mk (G:Hp) (v:V) (t:Pt) (n:Nat) (c:vs=[v]) (d:AG G H) (e:Val G v t) (f:QH n t) (g:∀(w:V) (b:Hp),AG H b->(Val G w t.hold∨(t.hold=.lst []/\∃p,w=.ref p/\b p=some (.lst [])))->Q w b):PH vs H Q a
def ND:Sp:=fun a H Q E=>PH a H Q E
inductive MB {K:ACh} [BA K] (vs:List V) (H:Hp) (Q:VK) (a:XK):Prop
 |mk (G:Hp) (v:V) (t:Pt) (n:Nat) (c:vs=[v]) (d:AG G H) (e:Val G v t) (f:QH n t) (g:n<=900) (h:∀(p:Addr) (es:List V) (us:List Pt) (b:Hp),AG H b->H p=none->b p=some (.lst es)->Aa G es us->JF t.hold us->Q (.ref p) b):MB vs H Q a
def KY:Sp:=fun a H Q E=>MB a H Q E
inductive PJ {K:ACh} [BA K] (d:Addr) (vs:List V) (H:Hp) (Q:VK) (a:XK):Prop
 |mk (G:Hp) (v:V) (t:Pt) (n:Nat) (e:vs=[v,.ref d]) (f:AG G H) (g:Val G v t) (h:QH n t) (i:n<=900) (j:∀(p:Addr) (es:List V) (l:List Pt) (b:List (List Pt)) (c:Hp),AG H c->H p=none->c p=some (.lst es)->Aa G es l->UL t l.length l b->l.length<=900->Q (.ref p) c):PJ d vs H Q a
def NF (a:Addr):Sp:=fun b H Q E=>PJ a b H Q E
inductive IT {K:ACh} [BA K] (vs:List V) (H:Hp) (Q:VK) (b:XK):Prop
 |row (v:V) (ts:List Pt) (L:Addr) (ws:List V) (c:vs=[v,.ref L]) (d:Val H v (.lst ts)) (e:H L=some (.lst ws)) (f:ws.length<=900) (g:∀(p:Addr) (a:Hp),AG H a->H p=none->a p=some (.lst ws)->Q (.ref p) a):IT vs H Q b
 |tab (v:V) (ks:List Str) (ts:List Pt) (L:Addr) (ws:List V) (c:vs=[v,.ref L]) (d:Val H v (.BM ks ts)) (e:H L=some (.lst ws)) (f:Ig (.BM ks ts)) (g:ws.length=ks.length) (h:ks.Nodup) (i:∀(p:Addr) (ss:List Str) (a:Hp),AG H a->H p=none->ss.Perm ks->sortedS ss=true->a p=some (.dK (Bz ss ws))->Q (.ref p) a):IT vs H Q b
def HY:Sp:=fun a H Q E=>IT a H Q E
def Ak.eC:Ak->Bool
 | .Ac _=>false
 |_=>true
theorem Ym:∀{cs:List Ak} {vs:List V},vs.length=cs.length->(∀(i:Nat) v,vs[i]?=some v->∃c,cs[i]?=some c/\v=.bl c.eC)->∃bs:List Bool,vs=bs.map V.bl/\bs.any id=(Ak.CI cs).isNone:=by
 intro cs
 induction cs with
 |nil=>intro vs l _;have:vs=[]:=List.eq_nil_of_length_eq_zero l;subst this;exact⟨[],rfl,rfl⟩
 |cons c r f=>
  intro vs l h
  cases vs with
  |nil=>simp at l
  |cons v vs=>
   obtain⟨bs,rfl,g⟩:=f (vs:=vs) (by simpa using l) fun i v j=>by
    obtain⟨a,b,e⟩:=h (i+1) v (by simpa using j)
    exact⟨a,by simpa using b,e⟩
   obtain⟨a,b,e⟩:=h 0 v rfl
   have:c=a:=by simpa using b
   subst this
   refine⟨c.eC::bs,by rw[e];rfl,?_⟩
   rw[List.any_cons,g]
   cases c with
   |Ac d=>simp[Ak.CI,Ak.eC]
   |_=>simp[Ak.CI,Ak.eC]
inductive HZ:Pt->List Ak->(List Pt->Pt)->Prop
 |row (cs:List Ak) (z:cs.length<=900):HZ (.lst (cs.map Ak.pt)) cs .lst
 |tab (ss:List Str) (cs:List Ak) (l:ss.length=cs.length) (nd:ss.Nodup) (z:ss.length<64) (a:sortedS ss=true):HZ (.BM ss (cs.map Ak.pt)) cs (.BM ss)
theorem HZ.Sb {t:Pt} {cs:List Ak} {mk:List Pt->Pt} (h:HZ t cs mk):Ig t:=by
 cases h with
 |row cs z=>show(cs.map Ak.pt).length<=900;rw[List.length_map];exact z
 |tab a cs l nd z b=>exact⟨by rw[List.length_map];exact l,z⟩
theorem HZ.len {t:Pt} {cs:List Ak} {mk:List Pt->Pt} (h:HZ t cs mk):cs.length<=900:=by
 cases h with
 |row cs z=>exact z
 |tab a cs l nd z b=>lia
theorem HZ.kids {t:Pt} {cs:List Ak} {mk:List Pt->Pt} (h:HZ t cs mk) {us:List Pt} (k:JF t us):us=cs.map Ak.pt:=by
 refine k.one ?_
 cases h with
 |row cs z=>rfl
 |tab a cs l nd z b=>exact⟨a,.refl _,b,Fw (by rw[List.length_map];exact l) nd⟩
inductive MC {K:ACh} [BA K] (vs:List V) (H:Hp) (Q:VK) (a:XK):Prop
 |mk (c:Hp) (v:V) (t:Pt) (cs:List Ak) (mk:List Pt->Pt) (e:vs=[v]) (f:Val (nw c H) v t) (g:HZ t cs mk) (h:∀b,H b=none->c b=none) (i:∀(w:V) (d:Hp),AG H d->(Ak.CI cs=none/\w=.BV∨∃ds,Ak.CI cs=some ds/\Val (nw c d) w (Ak.Ac (mk ds)).pt)->Q w d):MC vs H Q a
def Ha:Sp:=fun a H Q E=>MC a H Q E
inductive KZ {K:ACh} [BA K] (vs:List V) (H:Hp) (Q:VK) (c:XK):Prop
 |mk (a:Hp) (L:Addr) (ws:List V) (cs:List Ak) (m:Bool) (e:vs=[.ref L,.bl m]) (f:H L=some (.lst ws)) (g:Aa (nw a H) ws (cs.map Ak.pt)) (h:ws.length<=900) (i:∀b,H b=none->a b=none) (j:a L=none) (k:∀(w:V) (d:Hp),AG H d->Val (nw a d) w (Ak.BP cs m).pt->Q w d):KZ vs H Q c
def IU:Sp:=fun a H Q E=>KZ a H Q E
inductive Ka {K:ACh} [BA K] (vs:List V) (H:Hp) (Q:VK) (c:XK):Prop
 |mk (G a:Hp) (L:Addr) (ss:List Str) (ws:List V) (cs:List Ak) (z:V) (ls:List Str) (m:Bool) (g:vs=[.ref L,z,.bl m]) (h:H L=some (.dK (Bz ss ws))) (i:Aa (nw a H) ws (cs.map Ak.pt)) (j:ss.length=ws.length) (k:ss.Nodup) (l:ss.length<64) (n:sortedS ss=true) (o:∀b,H b=none->a b=none) (p:a L=none) (q:Val H z (.lst (ls.map Pt.str))) (e:ls.length<=100) (f:∀(w:V) (d:Hp),AG H d->Val (nw a d) w (Ak.BH ss cs ls m).pt->Q w d):Ka vs H Q c
def IV:Sp:=fun a H Q E=>Ka a H Q E
inductive Ij {K:ACh} [BA K] (vs:List V) (H:Hp) (Q:VK) (d:XK):Prop
 |mk (G c:Hp) (v:V) (a:Ak) (L:Addr) (ws:List V) (as cs:List Ak) (h:vs=[v,.ref L]) (i:AG G H) (j:Val G v a.pt) (k:a.Bu) (l:a.wt<=900) (m:H L=some (.lst ws)) (n:c L=none) (o:∀b,H b=none->c b=none) (p:Ak.Kd a as) (q:Ak.B' as cs) (f:Aa (nw c H) ws (cs.map Ak.pt)) (g:∀(w:V) (b:Ak) (e:Hp),AG H e->Val (nw c e) w b.pt->Ak.Good a b->Q w e):Ij vs H Q d
def Kb:Sp:=fun a H Q E=>Ij a H Q E
inductive PK {K:ACh} [BA K] (e f:Addr) (vs:List V) (H:Hp) (Q:VK) (c:XK):Prop
 |mk (G:Hp) (v:V) (a:Ak) (g:vs=[v,.ref e,.ref f]) (h:AG G H) (i:Val G v a.pt) (j:a.Bu) (k:a.wt<=900) (l:∀(w:V) (b:Ak) (d:Hp),AG H d->Val (nw H d) w b.pt->Ak.Good a b->Q w d):PK e f vs H Q c
def NG (a b:Addr):Sp:=fun c H Q E=>PK a b c H Q E
inductive PL {K:ACh} [BA K] (vs:List V) (H:Hp) (Q:VK) (c:XK):Prop
 |mk (G:Hp) (v:V) (a:Ak) (e:vs=[v]) (f:AG G H) (g:Val G v a.pt) (h:a.Bu) (i:a.wt<=900) (j:∀(w:V) (b:Ak) (d:Hp),AG H d->Val (nw H d) w b.pt->Ak.Good a b->Q w d):PL vs H Q c
def NH:Sp:=fun a H Q E=>PL a H Q E
end
def Sd (w:World):Bool:=w.params.followText "set-order"
structure gT (prog:Program) (w:World) (h:Heap) (a:Addr) (ss:List Str) (o:Obj) (es:Array (Int×Value)) (ep:Nat) (t:SetTable) (us:List Str):Prop where
 at_:h.get? a=some o
 ex:o.ExactSet
 da:o.data=.set es ep t
 el:ElemsOf (PySem.strKind prog w) es.toList
 st:StrsAre (es.toList.map (·.2)) us
 pm:us.Perm ss
 fi:t.fits es.size=true
 le:t.led= !Sd w
 pl:ss≠[]->t.plain=false
def SS (prog:Program) (w:World) (h:Heap) (a:Addr) (ss:List Str):Prop:=∃o b c t d,gT prog w h a ss o b c t d
theorem SS.keep {prog:Program} {w:World} {h h':Heap} {a:Addr} {ss:List Str} (x:SS prog w h a ss) (k:∀o,h.get? a=some o->h'.get? a=some o):SS prog w h' a ss:=by
 obtain⟨o,b,c,t,d,y⟩:=x
 exact⟨o,b,c,t,d,k o y.at_,y.ex,y.da,y.el,y.st,y.pm,y.fi,y.le,y.pl⟩
theorem Dw:∀{vs:List Value} {ss:List Str},StrsAre vs ss->vs.length=ss.length
 |_,_,.nil=>rfl
 |_,_,.cons _ _ r=>by rw[List.length_cons,List.length_cons,Dw r]
theorem gT.size {prog:Program} {w:World} {h:Heap} {a:Addr} {ss us:List Str} {o:Obj} {es:Array (Int×Value)} {ep:Nat} {t:SetTable} (x:gT prog w h a ss o es ep t us):es.size=ss.length:=by
 have:=Dw x.st
 rw[List.length_map,Array.length_toList,x.pm.length_eq]at this
 exact this
theorem Eu {l e:List Value} (p:l.Perm e):∀{ss:List Str},StrsAre l ss->∃us,StrsAre e us/\us.Perm ss:=by
 induction p with
 |nil=>intro ss h;exact⟨ss,h,.refl _⟩
 |cons x _ f=>
  intro ss h
  cases h with
  |cons y t h=>
   obtain⟨us,c,d⟩:=f h
   exact⟨y::us,.cons y t c,d.cons y⟩
 |swap x y l=>
  intro ss h
  cases h with
  |cons a t h=>
   cases h with
   |cons b u h=>exact⟨b::a::_,.cons b u (.cons a t h),.swap a b _⟩
 |trans _ _ g i=>
  intro ss h
  obtain⟨us,c,d⟩:=g h
  obtain⟨j,k,m⟩:=i c
  exact⟨j,k,m.trans d⟩
theorem Ik:∀{vs:List Value} {ss:List Str},StrsAre vs ss->∀{v:Value},v∈vs->∃x t,v=.str x t/\x∈ss
 |_,_,.cons x t r,v,h=>by
  rcases List.mem_cons.mp h with rfl|h
  ·exact⟨x,t,rfl,List.mem_cons_self⟩
  ·obtain⟨y,u,e,m⟩:=Ik r h
   exact⟨y,u,e,List.mem_cons_of_mem _ m⟩
theorem Hb:∀{vs:List Value} {ss:List Str},StrsAre vs ss->∀(x:Str) (t:Tok),StrsAre (vs++[.str x t]) (ss++[x])
 |_,_,.nil,x,t=>.cons x t .nil
 |_,_,.cons y u r,x,t=>.cons y u (Hb r x t)
theorem Se (t:SetTable) (j:Nat):(t.put j).1.led=t.led/\(t.put j).1.plain=t.plain:=⟨rfl,rfl⟩
theorem RL (t:SetTable) (es:Array (Int×Value)) (h:Int) (x:Value):(layNew t es h x).2.1.led=t.led/\(t.plain=false->(layNew t es h x).2.1.plain=false):=by
 unfold layNew
 split
 ·rename_i slot d _
  dsimp only
  unfold SetTable.orStandIn
  split
  ·exact⟨(Se t slot).1,fun h=>(Se t slot).2.trans h⟩
  ·exact⟨rfl,fun _=>rfl⟩
 ·exact⟨rfl,fun _=>rfl⟩
theorem NI (t:SetTable) (es:Array (Int×Value)) (n:Nat):(relayAll t es n).2.1.led=t.led/\(t.plain=false->(relayAll t es n).2.1.plain=false):=by
 unfold relayAll
 split
 ·rename_i b order e
  have a:b.led=t.led/\b.plain=t.plain:=by
   unfold SetTable.relaid SetTable.laid at e
   cases c:SetTable.layClean (SetTable.sizeAbove n-1) (es.map (·.1))with
   |none=>rw[c]at e;cases e
   |some d=>rw[c]at e;cases e;exact⟨rfl,rfl⟩
  dsimp only
  split
  ·exact⟨a.1,fun h=>a.2.trans h⟩
  ·exact⟨rfl,fun _=>rfl⟩
 ·exact⟨rfl,fun _=>rfl⟩
section
variable{prog:Program} {w:World} {A:Around} {E:Value->Shared->Prop} {s:Shared}
theorem cM {a:Addr} {ss:List Str} {x:Str} {tk:Tok} {Q:Bool->Shared->Prop} (hS:SS prog w s.heap a ss) (nx:x∉ss) (hz:ss.length<1000)
  (h:∀h',Heap.SameBut a s.heap h'->SS prog w h' a (ss++[x])->Q true {s with heap:=h'}):wpAny (model prog w) A (setAddHashed a (.str x tk) ((PySem.strKind prog w).hash x)) Q E s:=by
 obtain⟨o,F,ep,t,us,Y⟩:=hS
 have J:=Y.size
 have S:scanBound=4096:=rfl
 have D:(PySem.strKind prog w).is x (.str x tk)=true:=by simp[PySem.strKind,Value.isStrOf]
 unfold setAddHashed setAddHashedIn
 refine wpAny_holding (wpAny_bind (wpAny_setState_of Y.at_ Y.da Y.fi ?_))
 dsimp only
 rw[byScan_of (knd:=strKind prog w) rfl (by rw[J,S];lia) Y.el,if_pos rfl]
 unfold setAddByScan
 refine wpAny_bind (wpAny_bind (wpAny_rule (wpAny_bind (wpAny_setScan_of D Y.at_ Y.da Y.fi Y.el ?_))))
 have hn:F.toList.findIdx? (fun e=>(PySem.strKind prog w).is x e.2)=none:=by
  rw[List.findIdx?_eq_none_iff]
  intro e he
  obtain⟨y,u,O,m⟩:=Ik Y.st (List.mem_map_of_mem (f:=(·.2)) he)
  rw[O]
  rw[Bool.eq_false_iff]
  intro z
  obtain⟨d,e2⟩:=Value.isStrOf_shape (show Value.isStrOf x (.str y u)=true from z)
  have ey:y=x:=by injection e2
  exact nx (by rw[<-ey];exact Y.pm.mem_iff.mp m)
 rw[hn]
 dsimp only
 have K:∀(b:Bool) {k:Shared} {T:Unit->Shared->Prop},T () k->wpAny (model prog w) A (match b with|true=>rule "set.scan.the-table-gave-way"|false=>pure ()) T E k:=fun b k T hq=>by
  cases b
  ·exact wpAny_pure hq
  ·exact wpAny_rule hq
 have g:=layNew_perm t F ((PySem.strKind prog w).hash x) (.str x tk)
 have v:=layNew_fits t F ((PySem.strKind prog w).hash x) (.str x tk)
 have B:=RL t F ((PySem.strKind prog w).hash x) (.str x tk)
 generalize layNew t F ((PySem.strKind prog w).hash x) (.str x tk)=L at g v B⊢
 obtain⟨c,t1,wd,gv⟩:=L
 dsimp only at g v B⊢
 rw[Array.toList_push]at g
 have U:ElemsOf (PySem.strKind prog w) c.toList:=(Y.el.push D rfl).perm g
 have M:c.size=ss.length+1:=by rw[<-Array.length_toList,g.length_eq,List.length_append,Array.length_toList,J];rfl
 obtain⟨C,V,W⟩:∃C,StrsAre (c.toList.map (·.2)) C/\C.Perm (us++[x]):=by
  have G:(F.toList++[((PySem.strKind prog w).hash x,Value.str x tk)]).map (·.2)=F.toList.map (·.2)++[.str x tk]:=by rw[List.map_append];rfl
  have h2:=Eu (g.symm.map (·.2)) (ss:=us++[x]) (by rw[G];exact Hb Y.st x tk)
  exact h2
 have X:C.Perm (ss++[x]):=W.trans (Y.pm.append_right _)
 refine wpAny_bind (K _ ?_)
 have fin:∀d:SetTable,d.led=(!Sd w)->d.plain=false->d.fits c.size=true->wpAny (model prog w) A (do
    storeSet a c d
    if(!wd&&d.tooFull)=true then do
      (match(relayAll d c (SetTable.grown c.size)).2.2 with|true=>rule "set.scan.the-table-gave-way"|false=>pure ())
      storeSet a (relayAll d c (SetTable.grown c.size)).1 (relayAll d c (SetTable.grown c.size)).2.1
      pure (some true)
     else pure (some true)) (fun r H=>r=some true/\Q true H) E s:=fun d l2 p2 f2=>by
  have one:∀{G:Heap} {I:Obj} {O:Array (Int×Value)} {n:Nat} {ta:SetTable} (j:Array (Int×Value)) (i:SetTable),G.get? a=some I->I.ExactSet->I.data=.set O n ta->j.toList.Perm c.toList->i.led=(!Sd w)->i.plain=false->i.fits j.size=true->
    (G.update a (Obj.putSet j i)).get? a=some {I with data:=.set j (n+1) i}/\SS prog w (G.update a (Obj.putSet j i)) a (ss++[x]):=fun{G I O n ta} j i ho hx hd N l p f=>by
   have hg:(G.update a (Obj.putSet j i)).get? a=some {I with data:=.set j (n+1) i}:=by
    have:=Heap.get?_update_self (Obj.putSet j i) ho (by rw[putSet_of j i hd];rfl)
    rw[putSet_of j i hd]at this
    exact this
   obtain⟨Z,q1,q2⟩:=Eu (N.symm.map (·.2)) V
   exact⟨hg,_,j,n+1,i,Z,hg,hx,rfl,U.perm N,q1,q2.trans X,f,l,fun _=>p⟩
  obtain⟨g1,S1⟩:=one c d Y.at_ Y.ex Y.da (.refl _) l2 p2 f2
  have b1:=Heap.SameBut.update s.heap a (Obj.putSet c d)
  refine wpAny_bind (wpAny_storeSet_of Y.at_ Y.da ?_ (fits_of_scanBound (by rw[M,S];lia)))
  split
  ·have P:=relayAll_perm d c (SetTable.grown c.size)
   have fr:=relayAll_fits d c (SetTable.grown c.size)
   have R:=NI d c (SetTable.grown c.size)
   generalize relayAll d c (SetTable.grown c.size)=Rl at P fr R⊢
   obtain⟨e3,t3,g3⟩:=Rl
   dsimp only at P fr R⊢
   have tZ:e3.size=c.size:=by rw[<-Array.length_toList,P.length_eq,Array.length_toList]
   refine wpAny_bind (K _ (wpAny_bind (wpAny_storeSet_of g1 rfl ?_ (fits_of_scanBound (by rw[tZ,M,S];lia)))))
   obtain⟨_,S3⟩:=one e3 t3 g1 Y.ex rfl P (R.1.trans l2) (R.2 p2) fr
   exact wpAny_pure ⟨rfl,h _ (b1.trans (Heap.SameBut.update _ a _)) S3⟩
  ·exact wpAny_pure ⟨rfl,h _ b1 S1⟩
 have done:∀{r:Option Bool} {H:Shared},r=some true/\Q true H->wpAny (model prog w) A (match r with|some added=>pure added|none=>setAddHashedIn a (.str x tk) ((PySem.strKind prog w).hash x) 99999) Q E H:=fun⟨e,q⟩=>by subst e;exact wpAny_pure q
 split
 ·rename_i N
  refine wpAny_bind ?_
  rw[hashByValue_scannable 8 (x:=.str x tk) rfl]
  refine wpAny_pure ?_
  refine Bo (fin {t1 with plain:=false} (B.1.trans Y.le) rfl (SetTable.fits_plain_off v)) fun r H hr=>?_
  obtain⟨rfl,q⟩:=hr
  exact wpAny_pure q
 ·rename_i N
  refine wpAny_bind (wpAny_pure ?_)
  refine Bo (fin t1 (B.1.trans Y.le) (by simpa using N) v) fun r H hr=>?_
  obtain⟨rfl,q⟩:=hr
  exact wpAny_pure q
end
section
variable{prog:Program} {w:World} {A:Around} {R:Result->Shared->Prop}
theorem WY {I l S:Addr} {items:Array Value} {ss:List Str} (U:A.handled=none) (p:l≠I) (c:S≠I) (q:S≠l) (O:StrsAre items.toList ss) (nd:ss.Nodup) (hsz:ss.length<1000):
  ∀(k i:Nat) (s:Shared),ss.length-i=k->i<=ss.length->s.heap.IsListIter I l i->s.heap.IsList l items->SS prog w s.heap S (ss.take i)->
   (∀h' tk,SS prog w h' S ss->(∀b o,b≠S->b≠I->s.heap.get? b=some o->h'.get? b=some o)->R (.ok (.ret .none)) {s with heap:=h',toks:=tk})->
   codeAny (model prog w) A (.builtin "set.update.loop" ⟨[.ref S,.ref I],[]⟩) R s:=by
 have W:=Walks.list (prog:=prog) (w:=w) (A:=A.in1) U I l p items
 have hlen:items.size=ss.length:=by have:=Dw O;rw[Array.length_toList]at this;exact this
 intro k
 induction k with
 |zero=>
  intro i s V X d u f B
  have C:i=ss.length:=by lia
  subst C
  refine codeAny_builtin PyProof.Rows.F.entry_set_update_loop ?_
  rw[Around.under_plainId PyProof.Rows.F.plain_set_update_loop _]
  show wpAny _ A.in1 (pyNext (.ref I)>>=_) _ _ s
  refine wpAny_bind (W.done s _ _ (by rw[hlen];exact⟨d,u⟩) fun h' tk kept=>?_)
  rw[List.take_length]at f
  show wpAny _ A.in1 (ret Value.none) _ _ _
  exact wpAny_pure (B h' tk (f.keep fun o e=>kept _ o (by simp[c]) e) fun b o _ Y e=>kept b o (by simp[Y]) e)
 |succ k D=>
  intro i s V X d u f B
  have a:i<ss.length:=by lia
  obtain⟨x,n⟩:∃x,ss[i]?=some x:=⟨_,ACd a⟩
  refine codeAny_builtin PyProof.Rows.F.entry_set_update_loop ?_
  rw[Around.under_plainId PyProof.Rows.F.plain_set_update_loop _]
  show wpAny _ A.in1 (pyNext (.ref I)>>=_) _ _ s
  refine wpAny_bind (W.item i s _ _ (by rw[hlen];exact a) ⟨d,u⟩ fun v h' tk Z g kept=>?_)
  obtain⟨j,rfl⟩:∃t,v=.str x t:=by
   have gen:∀{E:List Value} {G:List Str},StrsAre E G->∀{i:Nat} {v:Value} {x:Str},E[i]?=some v->G[i]?=some x->∃t,v=.str x t:=by
    intro E G h
    induction h with
    |nil=>intro i v x e _;simp at e
    |cons y t r D=>
     intro i v x H m
     cases i with
     |zero=>simp at H m;subst H m;exact⟨t,rfl⟩
     |succ i=>exact D (by simpa using H) (by simpa using m)
   exact gen O (by rw[Array.getElem?_toList];exact Z) n
  have J:SS prog w h' S (ss.take i):=f.keep fun o e=>kept _ o (by simp[c]) e
  have nx:x∉ss.take i:=fun z=>by
   have e:ss=ss.take i++ss.drop i:=(List.take_append_drop i ss).symm
   have f:ss.drop i=x::ss.drop (i+1):=by
    rw[List.drop_eq_getElem_cons a]
    rw[ACd a]at n
    rw[ACf n]
   rw[e,f]at nd
   exact(List.nodup_append.mp nd).2.2 x z x List.mem_cons_self rfl
  show wpAny _ A.in1 (holding [Value.str x j] (setAdd S (.str x j))>>=_) _ _ _
  refine wpAny_bind (wpAny_holding ?_)
  unfold setAdd
  refine wpAny_holding (wpAny_bind ((PySem.strKind prog w).pyHash (k:=x) (by simp[PySem.strKind,Value.isStrOf]) ?_))
  refine cM (s:={s with heap:=h',toks:=tk+1}) J nx (by rw[List.length_take];lia) fun h2 K P=>?_
  have m:ss.take i++[x]=ss.take (i+1):=by rw[List.take_add_one,n];rfl
  rw[m]at P
  refine wpAny_pure ⟨plainId_quiet PyProof.Rows.F.plain_set_update_loop _,D (i+1) _ (by lia) a (g.1.at fun o e=>by rw[K.2 I (Ne.symm c)];exact e) (g.2.at fun o e=>by rw[K.2 l (Ne.symm q)];exact e) P fun h3 L M N=>B h3 L M fun b o Q T e=>N b o Q T ?_⟩
  show h2.get? b=some o
  rw[K.2 b Q]
  exact kept b o (by simp[T]) e
end
section
variable{prog:Program} {w:World} {A:Around} {E:Value->Shared->Prop} {s:Shared}
theorem Yn (a:Value) {Q₁:Value->Shared->Prop} (h:Q₁ (.ref s.heap.objs.size) {s with heap:=s.heap.push {cls:=.type "set",dict:=none,data:=.set #[] 0 (.fresh 0 0 (!Sd w))}}):
  codeAny (model prog w) A (.call (.builtin "set.__new__") ⟨[.type "set",a],[]⟩) (wants Q₁ E) s:=by
 refine codeAny_of_tree ?_
 show wpAny _ A.in1 (do checkBuiltinCall "set.__new__" ⟨[.type "set",a],[]⟩;again (.builtin "set.__new__" ⟨[.type "set",a],[]⟩)) _ _ s
 refine wpAny_bind (wpAny_of_eq (PySem.F.newCall_set_1 a) (wpAny_pure ⟨plainId_quiet PySem.F.plain_set_new _,codeAny_builtin PySem.F.entry_set_new ?_⟩))
 rw[Around.under_plainId PySem.F.plain_set_new _]
 unfold Builtin.«set.__new__» Builtin.Frozenset.newClass
 have b:=sub_set_self
 obtain⟨c,g,d,e,os⟩:=s
 dsimp only
 wp_walk
 refine wpAny_askSetting (wpAny_pure ?_)
 dsimp only
 simp only[newObj]
 exact wpAny_bind (wpAny_alloc (wpAny_pure (wpAny_pure h)))
end
abbrev NJ (w:World):Obj:={cls:=.type "set",dict:=none,data:=.set #[] 0 (.fresh 0 0 (!Sd w))}
theorem SS.fresh {prog:Program} {w:World} {h:Heap} {a:Addr} (e:h.get? a=some (NJ w)):SS prog w h a []:=
 ⟨_, #[],0,_,[],e,⟨rfl,rfl,rfl⟩,rfl,(fun e b=>by simp at b),.nil,.refl _,rfl,rfl,fun z=>absurd rfl z⟩
section
variable{prog:Program} {w:World} {A:Around} {E:Value->Shared->Prop} {s:Shared}
theorem LU {l:Addr} {items:Array Value} {ss:List Str} {Q:Value->Shared->Prop} (T:A.handled=none) (hl:s.heap.IsList l items) (U:StrsAre items.toList ss) (nd:ss.Nodup) (y:ss.length<1000)
  (h:∀(h':Heap) (tk:Nat),SS prog w h' s.heap.objs.size ss->(∀b o,b<s.heap.objs.size->s.heap.get? b=some o->h'.get? b=some o)->Q (.ref s.heap.objs.size) {s with heap:=h',toks:=tk}):
  wpAny (model prog w) A (call (.type "set") [.ref l]) Q E s:=by
 obtain⟨c,tl,J⟩:=PySem.F.called_set.mro
 have z:=PySem.F.called_set.made
 have K:=PySem.F.called_set.sub
 refine wpAny_call (codeAny_of_tree ?_)
 show wpAny _ _ (callAny (.type "set") _) _ _ _
 refine wpAny_pure ⟨Code.quiet_builtin _ (by decide+kernel),codeAny_builtin PySem.F.entry_type_call ?_⟩
 rw[Around.under_plain (weight_type_call_type "set" [.ref l] []) rfl]
 have h1:=PySem.F.called_set.notType
 have h2:=PySem.F.called_set.canCreate
 have V:=PySem.F.typeCall_set_1 (.ref l)
 repeat (any_goals (first|assumption|wp_step))
 refine codeAny_mono (Yn (.ref l) (E:=E) (Q₁:=fun m f=>m=.ref s.heap.objs.size/\f={s with heap:=s.heap.push (NJ w)}) ⟨rfl,rfl⟩) fun r f B=>?_
 cases r with
 |error e=>exact B
 |ok W=>
  cases W with
  |ret m=>
   obtain⟨rfl,rfl⟩:=B
   have L:(s.heap.push (NJ w)).get? s.heap.objs.size=some (NJ w):=Heap.get?_push_size _ rfl
   have X:Shared.TypeIs {s with heap:=s.heap.push (NJ w)} (.ref s.heap.objs.size) "set":=⟨_,L,rfl⟩
   have Y:=PySem.F.called_set.init.lookup
   have Z:=PySem.F.called_set.init.bind (.ref s.heap.objs.size)
   repeat (any_goals (first|assumption|wp_step))
   refine codeAny_mono (codeAny_call_builtin (R:=wants (fun r g=>r=.none/\∃h' tk,g={s with heap:=h',toks:=tk}/\SS prog w h' s.heap.objs.size ss/\(∀b o,b<s.heap.objs.size->s.heap.get? b=some o->h'.get? b=some o)) E) PySem.F.called_set.init.plain PySem.F.entry_set_init (check_set_init_1 X ?_)) fun n g a=>?_
   ·obtain⟨ol,p,q,M,t⟩:=hl
    obtain⟨N,i,C,d⟩:=ol
    simp only at q t
    subst q;subst t
    have u:(s.heap.push (NJ w)).get? l=some {cls:=.type "list",dict:=i,data:=.seq items M,slots:=d}:=Heap.get?_push_of_some _ p
    have O:=PySem.F.sub_list_set
    have P:=PySem.F.sub_list_frozenset
    have YQ:(Value.type "list"==Value.type "dict")=false:=by decide
    have v:(s.heap.push (NJ w)).IsList l items:=⟨_,u,rfl,M,rfl⟩
    unfold Builtin.«set.__init__» noKeywords Builtin.Frozenset.updateFrom
    generalize D:pyIter=PI
    wp_walk
    subst D
    refine wpAny_pyIter_list v ?_
    refine wpAny_bind (wpAny_runValue ?_)
    have x:l<s.heap.objs.size:=Heap.lt_size p
    have j:(s.heap.push (NJ w)).objs.size=s.heap.objs.size+1:=Heap.size_push ..
    refine WY (l:=l) (I:=(s.heap.push (NJ w)).objs.size) (S:=s.heap.objs.size) (by simp[T]) (by rw[j];exact Nat.ne_of_lt (Nat.lt_succ_of_lt x)) (by rw[j];exact Nat.ne_of_lt (Nat.lt_succ_self _)) (Nat.ne_of_gt x) U nd y (ss.length-0) 0 _ rfl (Nat.zero_le _)
     ⟨_,Heap.get?_push_size _ rfl,rfl,rfl⟩ (v.push _) (SS.fresh (Heap.get?_push_of_some _ L)) fun h' tk S' kp=>?_
    show wpAny _ _ _ _ _ _
    refine wpAny_pure ?_
    show wpAny _ _ (ret Value.none) _ _ _
    refine wpAny_pure ⟨rfl,h',tk,rfl,S',fun b o y e=>kp b o (Nat.ne_of_lt y) (by rw[j];exact Nat.ne_of_lt (Nat.lt_succ_of_lt y)) (Heap.get?_push_of_some _ (Heap.get?_push_of_some _ e))⟩
   ·cases n with
    |error e=>exact a
    |ok k=>
     cases k with
     |ret r=>
      obtain⟨rfl,h',tk,rfl,G,H⟩:=a
      repeat (any_goals (first|assumption|wp_step))
      exact h _ _ G H
     |_=>exact a.elim
  |_=>exact B.elim
end
theorem JV:Slot "set_iterator" "__next__" "set_iterator.__next__":=
 .of (owner:="set_iterator") (n:="__next__") (by rw[typeLookup_type,builtinLookup_eq_fast];kernel_rfl) (by decide+kernel) (by decide+kernel) (by decide+kernel) (by first|exact .inl (by decide+kernel)|exact .inr (by decide+kernel)) (by rw[isSubtype_type];kernel_rfl)
theorem WZ:entryFor table "set_iterator.__next__"=some Builtin.«set_iterator.__next__»:=entryFor_of_tree (by kernel_rfl)
theorem PM:Manifest.owners.lookup (String.ofList ['r','o','t','a','r','e','t','i','_','t','e','s'].reverse)=some Manifest.sig_set_iterator:=by kernel_rfl
theorem Yo (a:Value):argsOk "set_iterator.__next__" ⟨[a],[]⟩:=by
 unfold argsOk;rw[signature?_of (id:="set_iterator.__next__") (n:=['_','_','t','x','e','n','_','_']) (o:=['r','o','t','a','r','e','t','i','_','t','e','s']) (by kernel_rfl) PM];kernel_rfl
theorem Kc:entryFor table "set.__iter__"=some Builtin.«frozenset.__iter__»:=entryFor_alias (id':="frozenset.__iter__") (by kernel_rfl) rfl (by decide+kernel) (by kernel_rfl)
abbrev Yp (h:Heap) (b a:Addr) (f:Value) (i n ep:Nat):Prop:=h.get? b=some {cls:=.type "set_iterator",dict:=none,data:=.fields #[f,rawInt (i:Int),.ref a,rawInt (n:Int),rawInt (ep:Int)],slots:= #[]}
theorem Ke {a:Type}:∀{xs:List a} {i:Nat} (h:i<xs.length),(xs[i]::xs.eraseIdx i).Perm xs
 |x::xs,0,_=>.refl _
 |x::xs,i+1,h=>by
  have h':i<xs.length:=by simpa using h
  exact(List.Perm.swap x _ _).trans ((Ke h').cons x)
section
variable{prog:Program} {w:World} {A:Around} {E:Value->Shared->Prop} {s:Shared}
theorem RM {a:Source} {n:Nat} {Q:Nat->Shared->Prop} (b:n≠0) (h:∀i c,i<n->Q i {s with drawn:=c}):wpAny (model prog w) A (choose a n) Q E s:=fun Γ p _=>by
 show Sem.wp _ _ (.choose a n .pure) _ _ p s
 rw[Sem.wp_choose]
 exact⟨b,h _ _ (Nat.mod_lt _ (Nat.pos_of_ne_zero b))⟩
theorem MD {d:Type}:∀(n:Nat) (xs:List d) (s:Shared) {Q:List d->Shared->Prop},xs.length=n->(∀ys e,ys.Perm xs->Q ys {s with drawn:=e})->wpAny (model prog w) A (drawOrder n xs) Q E s
 |0,xs,s,Q,a,h=>by
  have:xs=[]:=List.eq_nil_of_length_eq_zero a
  subst this
  unfold drawOrder
  exact wpAny_pure (h [] s.drawn (.refl _))
 |n+1,[],s,Q,a,h=>by simp at a
 |n+1,x::xs,s,Q,a,h=>by
  unfold drawOrder
  refine wpAny_bind (RM (by simp) fun i e b=>?_)
  rw[ACd b]
  have f:((x::xs)[i]::(x::xs).eraseIdx i).Perm (x::xs):=Ke b
  refine wpAny_bind (MD n _ _ (by rw[List.length_eraseIdx_of_lt b];simpa using a) fun ys c g=>wpAny_pure (h _ c ((g.cons _).trans f)))
end
theorem Sf {b:Type} (f:Nat->Nat):∀(n k:Nat) (xs:List b) (out:Array b),xs.length=n->(pickOrder.go f n k xs out).toList.Perm (out.toList++xs)
 |0,k,xs,out,hl=>by
  have:xs=[]:=List.eq_nil_of_length_eq_zero hl
  subst this
  unfold pickOrder.go
  simp
 |n+1,k,xs,out,hl=>by
  unfold pickOrder.go
  have a:f k % xs.length<xs.length:=Nat.mod_lt _ (by lia)
  rw[ACd a]
  have c:(xs[f k % xs.length]::xs.eraseIdx (f k % xs.length)).Perm xs:=Ke a
  have d:=Sf f n (k+1) (xs.eraseIdx (f k % xs.length)) (out.push xs[f k % xs.length]) (by rw[List.length_eraseIdx_of_lt a];lia)
  refine d.trans ?_
  rw[Array.toList_push,List.append_assoc]
  exact List.Perm.append_left _ c
theorem UM {a:Type} (f:Nat->Nat) (xs:Array a):(pickOrder f xs).toList.Perm xs.toList:=by
 unfold pickOrder
 have:=Sf f xs.size 0 xs.toList #[] (by simp)
 simpa using this
inductive NK (w:World) (h:Heap) (a:Addr) (es:Array (Int×Value)) (ep:Nat) (t:SetTable) (tps:List Addr) (i:Nat):Value->List Value->Prop
 |text (b:Sd w=true):NK w h a es ep t tps i (rawInt 0) ((pickOrder (w.params.setOrder a ep) es).toList.map (·.2))
 |drawn {c:Addr} {ps:List Nat} (b:Sd w=false) (d:c∈tps) (e:h.get? c=some {cls:=.type "tuple",data:=.seq (ps.map fun(i:Nat)=>rawInt (i:Int)).toArray}) (f:ps.Perm (List.range es.size)):NK w h a es ep t tps i (.ref c) (ps.map fun j=>(es.getD j (0,.none)).2)
 |Rt (b:Sd w=false) (z:es.size<=1):NK w h a es ep t tps i (rawInt (if i=0 then 0 else((t.place.getD 0 0+1:Nat):Int))) (es.toList.map (·.2))
theorem RN (xs:Array Nat) (h:xs.size<=1):SetTable.below xs 0=0:=by
 obtain⟨l⟩:=xs
 rcases l with _|⟨a,_|⟨b,r⟩⟩
 ·rfl
 ·show SetTable.below.go #[a] 0 1 0 1=0
  simp[SetTable.below.go]
 ·simp at h
theorem UN (j:Nat):SetTable.below #[j] (j+1)=1:=by
 show SetTable.below.go #[j] (j+1) 1 0 1=1
 simp[SetTable.below.go]
section
variable{prog:Program} {w:World} {A:Around} {E:Value->Shared->Prop} {s:Shared}
structure Yq (prog:Program) (w:World) (h:Heap) (it a:Addr) (o:Obj) (es:Array (Int×Value)) (ep:Nat) (t:SetTable) (tps:List Addr) (os:List Value) (i:Nat):Prop where
 at_:h.get? a=some o
 da:o.data=.set es ep t
 fi:t.fits es.size=true
 le:t.led= !Sd w
 f:∃f,Yp h it a f i es.size ep/\NK w h a es ep t tps i f os
theorem Yq.keep {h h':Heap} {c a:Addr} {o:Obj} {es:Array (Int×Value)} {ep:Nat} {t:SetTable} {tps:List Addr} {os:List Value} {i:Nat} (x:Yq prog w h c a o es ep t tps os i) (k:∀b∈c::a::tps,∀o,h.get? b=some o->h'.get? b=some o):Yq prog w h' c a o es ep t tps os i:=by
 obtain⟨f,e,g⟩:=x.f
 refine⟨k _ (by simp) _ x.at_,x.da,x.fi,x.le,f,k _ (by simp) _ e,?_⟩
 cases g with
 |text b=>exact .text b
 |drawn b d j l=>exact .drawn b d (k _ (by simp[d]) _ j) l
 |Rt b z=>exact .Rt b z
end
section
variable{prog:Program} {w:World} {A:Around} {E:Value->Shared->Prop} {s:Shared}
theorem Ga {Q:Bool->Shared->Prop} (h:Q (Sd w) s):wpAny (model prog w) A setsByText Q E s:=by
 unfold setsByText
 exact wpAny_bind (wpAny_askSetting (wpAny_pure h))
theorem PN {d:Addr} {Q:Option Value->Shared->Prop} {a:Addr} {f:Value} {i n ep:Nat} (k:Yp s.heap d a f i n ep)
  (g:wpAny (model prog w) A.in1 (Builtin.«set_iterator.__next__» ⟨[.ref d],[]⟩) (fun fin c=>∃v,fin=.done (.ret v)/\Q (some v) c) (fun e c=>∃o,e=.ref o/\c.TypeIs (.ref o) "StopIteration"/\Q none c) s):wpAny (model prog w) A (pyNext (.ref d)) Q E s:=by
 have j:s.TypeIs (.ref d) "set_iterator":=⟨_,k,rfl⟩
 unfold pyNext
 refine wpAny_bind (wpAny_attempt (wpAny_callSpecial?_slot (name:=Str.ofString "__next__") j JV (wpAny_call_entry JV j WZ ?_ (Yo _))))
 refine wpAny_mono g (fun fin c h=>?_) fun e c h=>?_
 ·obtain⟨v,rfl,q⟩:=h
  exact⟨v,rfl,wpAny_pure q⟩
 ·obtain⟨o,rfl,l,q⟩:=h
  exact wpAny_bind (wpAny_isInstance (T:="StopIteration") (b:=true) l isSubtype_stop (wpAny_pure q))
theorem PQ {b a:Addr} {o:Obj} {es:Array (Int×Value)} {ep i:Nat} {t:SetTable} {f:Value} {R:Fin->Shared->Prop} {c:Value->Shared->Prop} (d:Yp s.heap b a f i es.size ep) (e:s.heap.get? a=some o) (h:o.data=.set es ep t) (j:t.fits es.size=true)
  (g:wpAny (model prog w) A (do
   if let .int slot _:=f then
    match<-setNext a slot.toNat i ep with
    |some (x,next)=>
     setField (.ref b) 0 (rawInt next)
     setField (.ref b) 1 (rawInt ((i:Int)+1))
     ret x
    |none=>setField (.ref b) 2 .none;raiseNew (<-newExc (.type "StopIteration") [])
   else
    let some places<-seqItems? f|unsupported "internal:set_iterator"
    match places[i]? with
    |some (.int place _)=>
     let x<-setNextDrawn a place.toNat ep
     setField (.ref b) 1 (rawInt ((i:Int)+1))
     ret x
    |some _=>unsupported "internal:set_iterator"
    |none=>setField (.ref b) 0 (rawInt 0);setField (.ref b) 2 .none;raiseNew (<-newExc (.type "StopIteration") [])) R c s):wpAny (model prog w) A (Builtin.«set_iterator.__next__» ⟨[.ref b],[]⟩) R c s:=by
 unfold Builtin.«set_iterator.__next__»
 refine wpAny_bind (m:=slotArgs "__next__" 0 _) (wpAny_pure ?_)
 refine wpAny_bind (wpAny_fieldsOf d rfl ?_)
 show wpAny _ _ (setEntries a>>=_) _ _ _
 refine wpAny_bind (wpAny_setEntries_of e h j ?_)
 show wpAny _ _ (if((es.size:Int) !=(es.size:Int))=true then _ else _) _ _ _
 rw[if_neg (by simp)]
 refine g
end
section
variable{prog:Program} {w:World} {A:Around} {E:Value->Shared->Prop} {s:Shared}
theorem Wa {R:Fin->Shared->Prop} {c:Value->Shared->Prop} (d:A.handled=none) (h:∀h' o,(∀b u,s.heap.get? b=some u->h'.get? b=some u)->Shared.TypeIs {s with heap:=h'} (.ref o) "StopIteration"->c (.ref o) {s with heap:=h'}):
  wpAny (model prog w) A (do raiseNew (<-newExc (.type "StopIteration") [])) R c s:=by
 refine wpAny_bind ?_
 simp only[newExc,newTuple]
 refine wpAny_bind (wpAny_newObj_type ?_ (by size_fits))
 refine wpAny_bind (m:=firstArgMember _ _) (wpAny_of_eq (a:=Value.none) (by first|rfl|(simp only[firstArgMember];rfl)) ?_)
 refine wpAny_newObj_type ?_ (by size_fits)
 simp only[raiseNew]
 refine wpAny_bind (wpAny_handled ?_)
 rw[d]
 refine wpAny_bind (wpAny_pure (wpAny_throw ?_))
 exact h _ _ (fun b u e=>Heap.get?_push_of_some _ (Heap.get?_push_of_some _ e)) ⟨_,Heap.get?_push_size _ rfl,rfl⟩
theorem Dx {a:Addr} {o:Obj} {es:Array (Int×Value)} {ep i:Nat} {t:SetTable} {tps:List Addr} {os:List Value} {sl:Int} {Q:Option (Value×Nat)->Shared->Prop} (l:s.heap.get? a=some o) (m:o.data=.set es ep t) (f:t.fits es.size=true) (hl:t.led= !Sd w) (hw:NK w s.heap a es ep t tps i (rawInt sl) os)
  (g:os[i]?=none->Q none s) (n:∀v (nx:Nat),os[i]?=some v->NK w s.heap a es ep t tps (i+1) (rawInt (nx:Int)) os->Q (some (v,nx)) s):wpAny (model prog w) A (setNext a sl.toNat i ep) Q E s:=by
 unfold setNext
 refine wpAny_bind (wpAny_setState_of l m f ?_)
 dsimp only
 refine wpAny_bind (Ga ?_)
 generalize c:rawInt sl=first at hw
 cases hw with
 |text b=>
  have u:sl=0:=by injection c
  subst u
  rw[if_pos b,if_neg (by simp)]
  refine wpAny_bind ?_
  unfold setWalk
  refine wpAny_bind (wpAny_setState_of l m f ?_)
  dsimp only
  refine wpAny_bind (Ga ?_)
  rw[if_pos b]
  refine wpAny_bind (wpAny_askSetting (wpAny_pure (wpAny_pure ?_)))
  show Q (((pickOrder (w.params.setOrder a ep) es)[i]?).map fun e=>(e.2,Int.toNat 0)) s
  rw[List.getElem?_map,Array.getElem?_toList]at g
  cases p:(pickOrder (w.params.setOrder a ep) es)[i]? with
  |none=>exact g (by rw[p];rfl)
  |some e=>exact n e.2 0 (by rw[List.getElem?_map,Array.getElem?_toList,p];rfl) (.text b)
 |drawn b G H I=>exact absurd c (by simp[rawInt])
 |Rt b z=>
  rw[if_neg (by rw[b];simp)]
  refine wpAny_ite_split (fun B=>absurd B ?_) (fun _=>?_)
  ·show¬(!t.plain&&decide (es.size>1))=true
   simp;lia
  refine wpAny_bind ?_
  show wpAny _ _ (if(!t.led&& !es.isEmpty)=true then _ else pure ()) _ _ _
  rw[hl,b,if_neg (by simp)]
  refine wpAny_pure ?_
  have k:sl=(if i=0 then 0 else((t.place.getD 0 0+1:Nat):Int)):=by injection c
  have d:t.place.size=es.size:=by
   simp only[SetTable.fits,Bool.and_eq_true,beq_iff_eq]at f
   exact f.1
  show wpAny _ _ (pure (match es[SetTable.below t.place sl.toNat]?,t.place[SetTable.below t.place sl.toNat]? with|some (_,x),some j=>some (x,j+1)|_,_=>none)) _ _ _
  refine wpAny_pure ?_
  generalize C:t.place=P at d k⊢
  obtain⟨D⟩:=es
  obtain⟨F⟩:=P
  rcases D with _|⟨x,_|⟨y,r⟩⟩
  ·exact g (by simp)
  ·rcases F with _|⟨j,_|⟨J,r⟩⟩
   ·simp at d
   ·have K:(#[j]:Array Nat).getD 0 0=j:=rfl
    by_cases q:i=0
    ·subst q
     have:sl=0:=by rw[k];simp
     subst this
     rw[show Int.toNat 0=0 from rfl,RN _ (by simp)]
     refine n x.2 (j+1) (by simp) ?_
     have:=NK.Rt (w:=w) (h:=s.heap) (a:=a) (es:= #[x]) (ep:=ep) (t:=t) (tps:=tps) (i:=0+1) b (by simp)
     rw[C]at this
     simpa using this
    ·have:sl=((j+1:Nat):Int):=by rw[k,if_neg q];rfl
     subst this
     rw[Int.toNat_natCast,UN]
     refine g ?_
     rw[List.getElem?_eq_none]
     simp
     lia
   ·simp at d
  ·simp at z
theorem Yr {d a:Addr} {o:Obj} {es:Array (Int×Value)} {ep i:Nat} {t:SetTable} {tps:List Addr} {os:List Value} {v:Value} {Q:Option Value->Shared->Prop} (x:Yq prog w s.heap d a o es ep t tps os i) (q:d∉a::tps) (k:os[i]?=some v)
  (h:∀h',Yq prog w h' d a o es ep t tps os (i+1)->(∀b u,b≠d->s.heap.get? b=some u->h'.get? b=some u)->Q (some v) {s with heap:=h'}):wpAny (model prog w) A (pyNext (.ref d)) Q E s:=by
 obtain⟨f,p,hw⟩:=x.f
 have P:a≠d:=fun z=>q (by rw[z];exact List.mem_cons_self)
 refine PN p (PQ p x.at_ x.da x.fi ?_)
 have fin:∀{r l:Heap} {g:Value},Heap.SameBut d s.heap r->Heap.SameBut d r l->Yp l d a g (i+1) es.size ep->NK w s.heap a es ep t tps (i+1) g os->∃B,Fin.done (.ret v)=.done (.ret B)/\Q (some B) {s with heap:=l}:=fun{r l g} y n R S=>by
  have H:∀b u,b≠d->s.heap.get? b=some u->l.get? b=some u:=fun b u N e=>by rw[n.2 b N,y.2 b N];exact e
  refine⟨v,rfl,h l ⟨H a _ P x.at_,x.da,x.fi,x.le,g,R,?_⟩ H⟩
  cases S with
  |text b=>exact .text b
  |drawn b C D F=>exact .drawn b C (H _ _ (fun z=>q (by rw[<-z];exact List.mem_cons_of_mem _ C)) D) F
  |Rt b z=>exact .Rt b z
 have I:((i:Int)+1)=((i+1:Nat):Int):=by simp
 generalize W:f=X at p hw⊢
 cases hw with
 |text b=>
  show wpAny _ _ (setNext a (Int.toNat 0) i ep>>=_) _ _ _
  refine wpAny_bind (Dx (tps:=tps) (sl:=0) x.at_ x.da x.fi x.le (.text b) (fun z=>by rw[k]at z;cases z) fun B T c J=>?_)
  rw[k]at c
  cases c
  refine wpAny_bind (wpAny_setField_rec p (by simp) fun r K y=>wpAny_bind (wpAny_setField_rec K (by simp) fun l m n=>wpAny_pure ?_))
  rw[I]at m
  exact fin y n m J
 |@drawn U L b C D F=>
  show wpAny _ _ (seqItems? (.ref U)>>=_) _ _ _
  refine wpAny_bind (wpAny_seqItems D rfl ?_)
  rw[List.getElem?_map]at k
  cases G:L[i]? with
  |none=>rw[G]at k;cases k
  |some j=>
   rw[G]at k
   have O:j<es.size:=by
    have:=F.mem_iff.mp (ACg G)
    exact List.mem_range.mp this
   have M:((L.map fun(i:Nat)=>rawInt (i:Int)).toArray)[i]?=some (rawInt (j:Int)):=by simp[G]
   show wpAny _ _ (match((L.map fun(i:Nat)=>rawInt (i:Int)).toArray)[i]? with|some (.int place _)=>_|some _=>_|none=>_) _ _ _
   rw[M]
   show wpAny _ _ (setNextDrawn a (Int.toNat (j:Int)) ep>>=_) _ _ _
   refine wpAny_bind ?_
   unfold setNextDrawn
   refine wpAny_bind (wpAny_setState_of x.at_ x.da x.fi ?_)
   dsimp only
   rw[if_neg (by simp),Int.toNat_natCast,Array.getElem?_eq_getElem O]
   refine wpAny_pure ?_
   refine wpAny_bind (wpAny_setField_rec p (by simp) fun l m n=>wpAny_pure ?_)
   rw[I]at m
   have V:v=es[j].2:=by
    have:=ACf k
    rw[<-this]
    simp[Array.getD,O]
   subst V
   exact fin (Heap.SameBut.refl _ _) n m (.drawn b C D F)
 |Rt b z=>
  show wpAny _ _ (setNext a (Int.toNat _) i ep>>=_) _ _ _
  refine wpAny_bind (Dx (tps:=tps) x.at_ x.da x.fi x.le (.Rt b z) (fun z=>by rw[k]at z;cases z) fun B T c J=>?_)
  rw[k]at c
  cases c
  refine wpAny_bind (wpAny_setField_rec p (by simp) fun r K y=>wpAny_bind (wpAny_setField_rec K (by simp) fun l m n=>wpAny_pure ?_))
  rw[I]at m
  exact fin y n m J
theorem Ys {m a:Addr} {o:Obj} {es:Array (Int×Value)} {ep i:Nat} {t:SetTable} {tps:List Addr} {os:List Value} {Q:Option Value->Shared->Prop} (D:A.handled=none) (x:Yq prog w s.heap m a o es ep t tps os i) (k:os[i]?=none)
  (h:∀h',(∀b u,b≠m->s.heap.get? b=some u->h'.get? b=some u)->Q none {s with heap:=h'}):wpAny (model prog w) A (pyNext (.ref m)) Q E s:=by
 obtain⟨f,g,hw⟩:=x.f
 refine PN g (PQ g x.at_ x.da x.fi ?_)
 have fin:∀{q:Heap},(∀b u,b≠m->s.heap.get? b=some u->q.get? b=some u)->wpAny (model prog w) A.in1 (do raiseNew (<-newExc (.type "StopIteration") [])) (fun(fin:Fin) n=>∃v,fin=.done (.ret v)/\Q (some v) n) (fun e n=>∃o,e=.ref o/\n.TypeIs (.ref o) "StopIteration"/\Q none n) {s with heap:=q}:=fun F=>
  Wa D fun G H k3 I=>⟨H,rfl,I,h G fun b u d e=>k3 b u (F b u d e)⟩
 generalize P:f=R at g hw⊢
 cases hw with
 |text b=>
  show wpAny _ _ (setNext a (Int.toNat 0) i ep>>=_) _ _ _
  refine wpAny_bind (Dx (tps:=tps) (sl:=0) x.at_ x.da x.fi x.le (.text b) (fun _=>?_) fun J K c L=>by rw[k]at c;cases c)
  exact wpAny_bind (wpAny_setField_rec g (by simp) fun C r l=>fin fun b u d e=>by rw[l.2 b d];exact e)
 |@drawn M p b S N T=>
  show wpAny _ _ (seqItems? (.ref M)>>=_) _ _ _
  refine wpAny_bind (wpAny_seqItems N rfl ?_)
  have y:p[i]?=none:=by
   rw[List.getElem?_map]at k
   cases y:p[i]? with
   |none=>rfl
   |some j=>rw[y]at k;cases k
  have B:((p.map fun(i:Nat)=>rawInt (i:Int)).toArray)[i]?=none:=by simp[y]
  show wpAny _ _ (match((p.map fun(i:Nat)=>rawInt (i:Int)).toArray)[i]? with|some (.int place _)=>_|some _=>_|none=>_) _ _ _
  rw[B]
  exact wpAny_bind (wpAny_setField_rec g (by simp) fun C r l=>wpAny_bind (wpAny_setField_rec r (by simp) fun q U O=>fin fun b u d e=>by rw[O.2 b d,l.2 b d];exact e))
 |Rt b z=>
  show wpAny _ _ (setNext a (Int.toNat _) i ep>>=_) _ _ _
  refine wpAny_bind (Dx (tps:=tps) x.at_ x.da x.fi x.le (.Rt b z) (fun _=>?_) fun J K c L=>by rw[k]at c;cases c)
  exact wpAny_bind (wpAny_setField_rec g (by simp) fun C r l=>fin fun b u d e=>by rw[l.2 b d];exact e)
end
theorem Hd:Slot "set_iterator" "__iter__" "set_iterator.__iter__":=
 .of (owner:="set_iterator") (n:="__iter__") (by rw[typeLookup_type,builtinLookup_eq_fast];kernel_rfl) (by decide+kernel) (by decide+kernel) (by decide+kernel) (by first|exact .inl (by decide+kernel)|exact .inr (by decide+kernel)) (by rw[isSubtype_type];kernel_rfl)
theorem LV:entryFor table "set_iterator.__iter__"=some Builtin.«dict_keyiterator.__iter__»:=entryFor_alias (id':="dict_keyiterator.__iter__") (by kernel_rfl) (by first|rfl|decide+kernel) (by decide+kernel) (by kernel_rfl)
theorem NL (a:Value):argsOk "set_iterator.__iter__" ⟨[a],[]⟩:=by
 unfold argsOk;rw[signature?_of (id:="set_iterator.__iter__") (n:=['_','_','r','e','t','i','_','_']) (o:=['r','o','t','a','r','e','t','i','_','t','e','s']) (by kernel_rfl) PM];kernel_rfl
theorem Wb {prog:Program} {w:World} {A:Around} {E:Value->Shared->Prop} {s:Shared} {r:Addr} {Q:Bool->Shared->Prop} (c:s.TypeIs (.ref r) "set") (h:Q false s):wpAny (model prog w) A (Builtin.List.listLengthHint (.ref r)) Q E s:=by
 unfold Builtin.List.listLengthHint
 refine wpAny_bind (wpAny_specialOf c PySem.F.slot_set_len.lookup ?_)
 generalize Du:("set.__len__":String)=d
 wp_delta
 rw[show splitId d=some ("set","__len__")from by subst Du;decide+kernel]
 subst Du
 refine wpAny_bind (wpAny_isInstance (T:="set") (b:=true) c (by rw[isSubtype_type];kernel_rfl) ?_)
 refine wpAny_ite_split (fun a=>absurd a (by decide)) (fun _=>wpAny_ite_split (fun _=>wpAny_bind (wpAny_typeOf c (wpAny_pure h))) (fun a=>absurd (by decide+kernel) a))
section
variable{prog:Program} {w:World} {A:Around} {E:Value->Shared->Prop} {s:Shared}
theorem UO (hh:A.handled=none) {it a:Addr} {o:Obj} {es:Array (Int×Value)} {ep:Nat} {t:SetTable} {tps:List Addr} {os:List Value} (YQ:it∉a::tps):Walks prog w A it (it::a::tps) [it] os.length (fun i v=>os[i]?=some v) (fun i h=>Yq prog w h it a o es ep t tps os i)where
 sub:=fun b hb=>by rw[List.mem_singleton.mp hb];exact List.mem_cons_self
 frame:=fun i h h' x k=>x.keep k
 item:=fun i s Q E hi x hQ=>by
  refine Yr x YQ (ACd hi) fun h' x' kp=>?_
  have:=hQ os[i] h' s.toks (ACd hi) x' fun b u hb e=>kp b u (by simpa using hb) e
  exact this
 done:=fun s Q E x hQ=>by
  refine Ys hh x (List.getElem?_eq_none (Nat.le_refl _)) fun h' kp=>?_
  exact hQ h' s.toks fun b u hb e=>kp b u (by simpa using hb) e
 self:=fun i s Q E x hQ=>by
  obtain⟨f,hI,_⟩:=x.f
  have hT:s.TypeIs (.ref it) "set_iterator":=⟨_,hI,rfl⟩
  refine wpAny_pyIter_slot hT Hd (wpAny_call_entry Hd hT LV ?_ (NL _))
  exact wpAny_pure ⟨_,rfl,"set_iterator",_,hT,JV.lookup,hQ⟩
theorem Wc {a:Addr} {ss us:List Str} {o:Obj} {es:Array (Int×Value)} {ep:Nat} {t:SetTable} {Q:Value->Shared->Prop} (Y:gT prog w s.heap a ss o es ep t us) (hz:ss.length<1000)
  (h:∀h' k tps os g,(∀b u,s.heap.get? b=some u->h'.get? b=some u)->(∀b∈tps,s.heap.objs.size<=b/\b<k)->s.heap.objs.size<=k->k<h'.objs.size->Yq prog w h' k a o es ep t tps os 0->os.Perm (es.toList.map (·.2))->Q (.ref k) {s with heap:=h',drawn:=g}):
  wpAny (model prog w) A (pyIter (.ref a)) Q E s:=by
 have B:s.TypeIs (.ref a) "set":=⟨_,Y.at_,Y.ex.1⟩
 have n:=Y.size
 refine wpAny_pyIter_slot B PySem.F.slot_set_iter (wpAny_call_entry PySem.F.slot_set_iter B Kc ?_ (PySem.F.args_set_iter_1 _))
 unfold Builtin.«frozenset.__iter__»
 refine wpAny_bind (m:=Builtin.Frozenset.slot0 "__iter__" _) (wpAny_pure ?_)
 refine wpAny_bind ?_
 unfold Builtin.Frozenset.sizeOf
 refine wpAny_bind (wpAny_setEntries_of Y.at_ Y.da Y.fi (wpAny_pure ?_))
 refine wpAny_bind ?_
 unfold setDrawn
 refine wpAny_bind (wpAny_setState_of Y.at_ Y.da Y.fi ?_)
 dsimp only
 refine wpAny_bind (Ga (wpAny_pure ?_))
 have ends:∀{l:Shared} (f:Value) (tps:List Addr) (os:List Value),(∃g d,l={s with heap:=d,drawn:=g}/\(∀b u,s.heap.get? b=some u->d.get? b=some u)/\(∀b∈tps,s.heap.objs.size<=b/\b<d.objs.size)/\s.heap.objs.size<=d.objs.size)->(∀h',(∀b u,l.heap.get? b=some u->h'.get? b=some u)->NK w h' a es ep t tps 0 f os)->os.Perm (es.toList.map (·.2))->
   wpAny (model prog w) A.in1 (do ret (<-newFields "set_iterator" [f,rawInt 0,.ref a,rawInt es.size,rawInt (<-setEpoch a)])) (fun(fin:Fin) C=>∃v,fin=.done (.ret v)/\∃T r,C.TypeIs v T/\typeLookup (.type T) "__next__"=pure (some r)/\Q v C) E l:=fun{l} f tps os ⟨g,d,G,k1,H,l1⟩ I J=>by
  subst G
  refine wpAny_bind (wpAny_setEpoch_of (k1 _ _ Y.at_) Y.da Y.fi ?_)
  refine wpAny_bind (wpAny_newObj_type ?_ (by size_fits))
  have p:(d.push {cls:=.type "set_iterator",data:=.fields #[f,rawInt 0,.ref a,rawInt es.size,rawInt ep]}).get? d.objs.size=some {cls:=.type "set_iterator",data:=.fields #[f,rawInt 0,.ref a,rawInt es.size,rawInt ep]}:=Heap.get?_push_size _ rfl
  refine wpAny_pure ⟨_,rfl,"set_iterator",_,⟨_,p,rfl⟩,JV.lookup,?_⟩
  refine h _ _ tps os g (fun b u e=>Heap.get?_push_of_some _ (k1 b u e)) H l1 (Heap.lt_size p) ⟨Heap.get?_push_of_some _ (k1 _ _ Y.at_),Y.da,Y.fi,Y.le,f,p,I _ fun b u e=>Heap.get?_push_of_some _ e⟩ J
 have D:∀b u,s.heap.get? b=some u->s.heap.get? b=some u:=fun b u e=>e
 refine wpAny_ite_split (fun hz=>?_) (fun hz=>?_)
 ·have c:Sd w=false:=by
   cases c:Sd w with
   |false=>rfl
   |true=>rw[c]at hz;simp at hz
  refine wpAny_bind (MD es.size (List.range es.size) s (by simp) fun q g x=>?_)
  have K:q.length=es.size:=by rw[x.length_eq,List.length_range]
  refine wpAny_bind (wpAny_newTuple (items:=q.map fun(i:Nat)=>rawInt (i:Int)) ?_ (by rw[List.length_map];exact Ad (by lia)))
  refine ends (.ref s.heap.objs.size) [s.heap.objs.size] (q.map fun j=>(es.getD j (0,.none)).2) ⟨g,_,rfl,fun b u e=>Heap.get?_push_of_some _ e,fun b c=>?_,?_⟩ (fun h' y=>.drawn c List.mem_cons_self (y _ _ (Heap.get?_push_size _ rfl)) x) ?_
  ·rw[List.mem_singleton.mp c]
   exact⟨Nat.le_refl _,by show _<(s.heap.push _).objs.size;rw[Heap.size_push];exact Nat.lt_succ_self _⟩
  ·show _<=(s.heap.push _).objs.size;rw[Heap.size_push];exact Nat.le_succ _
  ·refine(x.map _).trans ?_
   have e:(List.range es.size).map (fun j=>(es.getD j (0,.none)).2)=es.toList.map (·.2):=by
    refine List.ext_getElem (by simp) fun i d N=>?_
    have L:i<es.size:=by simpa using d
    simp[Array.getD,L]
   rw[e]
 ·refine wpAny_bind (wpAny_pure ?_)
  cases c:Sd w with
  |true=>exact ends (rawInt 0) [] _ ⟨s.drawn,s.heap,rfl,D,(fun b c=>by simp at c),Nat.le_refl _⟩ (fun h' y=>.text c) ((UM _ es).map _)
  |false=>
   have z1:es.size<=1:=by
    rw[c]at hz
    have hz:¬(!false&&(!t.plain&&decide (es.size>1)))=true:=hz
    by_cases z:es.size=0
    ·lia
    ·have M:=Y.pl (fun e=>z (by rw[n,e];rfl))
     rw[M]at hz
     simp at hz
     lia
   exact ends (rawInt 0) [] _ ⟨s.drawn,s.heap,rfl,D,(fun b c=>by simp at c),Nat.le_refl _⟩ (fun h' y=>.Rt c z1) (.refl _)
theorem PR {a:Addr} {ss:List Str} {Q:List Value->Shared->Prop} (hh:A.handled=none) (hS:SS prog w s.heap a ss) (hz:ss.length<1000)
  (h:∀h' tk M vs zs,(∀b u,s.heap.get? b=some u->h'.get? b=some u)->s.heap.objs.size<=h'.objs.size->StrsAre vs zs->zs.Perm ss->Q vs {s with heap:=h',toks:=tk,drawn:=M}):wpAny (model prog w) A (collect (.ref a)) Q E s:=by
 obtain⟨o,X,Z,t,us,Y⟩:=hS
 have O:=Y.size
 unfold collect
 refine wpAny_bind (wpAny_runValue (codeAny_builtin PySem.F.entry_proto_collect ?_))
 rw[Around.under_plainId PySem.F.plain_proto_collect _]
 show wpAny _ A.in1 (newList []>>=fun l=>again (.builtin "list.__iadd__" ⟨[l,.ref a],[]⟩)) _ _ s
 refine wpAny_bind (wpAny_newObj_type ?_)
 refine wpAny_pure ⟨plainId_quiet PySem.F.plain_list_iadd _,codeAny_builtin PySem.F.entry_list_iadd ?_⟩
 rw[Around.under_plainId PySem.F.plain_list_iadd _]
 obtain⟨B,m⟩:∃B,B=s.heap.push {cls:=.type "list",data:=.seq ([]:List Value).toArray}:=⟨_,rfl⟩
 have I:B.objs.size=s.heap.objs.size+1:=by rw[m];exact Heap.size_push ..
 have k1:∀b u,s.heap.get? b=some u->B.get? b=some u:=fun b u e=>by rw[m];exact Heap.get?_push_of_some _ e
 have P:B.get? s.heap.objs.size=some {cls:=.type "list",data:=.seq #[]}:=by rw[m];exact Heap.get?_push_size _ rfl
 rw[<-m]
 have D:a<s.heap.objs.size:=Heap.lt_size Y.at_
 have R:gT prog w B a ss o X Z t us:=⟨k1 _ _ Y.at_,Y.ex,Y.da,Y.el,Y.st,Y.pm,Y.fi,Y.le,Y.pl⟩
 show wpAny _ A.in1 (Builtin.List.listExtendWith (.ref s.heap.objs.size) (.ref a) (.ref s.heap.objs.size)) _ _ _
 unfold Builtin.List.listExtendWith
 refine wpAny_bind (wpAny_typeOf (T:="set") ⟨_,R.at_,Y.ex.1⟩ ?_)
 have n1:Builtin.List.listSameRef (.ref s.heap.objs.size) (.ref a)=false:=by simp[Builtin.List.listSameRef];exact Nat.ne_of_gt D
 rw[if_neg (by rw[n1];decide)]
 refine wpAny_bind (Wc (s:={s with heap:=B}) R hz fun N J G os M k2 t2 l2 lt2 x pm=>?_)
 have n:s.heap.objs.size+1<=J:=by rw[<-I];exact l2
 have K:s.heap.objs.size∉J::a::G:=fun f=>by
  rcases List.mem_cons.mp f with e|f
  ·exact absurd n (by rw[<-e];exact Nat.not_succ_le_self _)
  rcases List.mem_cons.mp f with e|f
  ·exact absurd D (by rw[e];exact Nat.lt_irrefl _)
  ·have:=(t2 _ f).1
   exact absurd this (by show¬(B.objs.size<=_);rw[I];exact Nat.not_succ_le_self _)
 have S:J∉a::G:=fun f=>by
  rcases List.mem_cons.mp f with e|f
  ·rw[e]at n;exact absurd (Nat.lt_of_lt_of_le (Nat.lt_succ_self _) n) (Nat.not_lt.mpr (Nat.le_of_lt D))
  ·exact absurd (t2 _ f).2 (Nat.lt_irrefl _)
 refine wpAny_bind (wpAny_holding (Wb ⟨_,k2 _ _ R.at_,Y.ex.1⟩ ?_))
 have L:=k2 _ _ P
 have lo:os.length=ss.length:=by rw[pm.length_eq,List.length_map,Array.length_toList,O]
 have U:∀(H:Heap) (c1:Nat),Yq prog w H J a o X Z t G os 0->(∀b u,b≠s.heap.objs.size->N.get? b=some u->H.get? b=some u)->N.objs.size<=H.objs.size->H.get? s.heap.objs.size=some {cls:=.type "list",data:=.seq #[] c1}->
   codeAny (model prog w) A (.builtin "list.extend.loop" ⟨[.ref s.heap.objs.size,.ref J,.ref s.heap.objs.size],[]⟩) (fun r g=>∃d c,r=.ok (.ret (.ref s.heap.objs.size))/\g.heap.get? s.heap.objs.size=some {cls:=.type "list",dict:=none,data:=.seq d c,slots:= #[]}/\Q d.toList g) {s with heap:=H,drawn:=M}:=fun H c1 x3 k3 z3 p=>by
  refine codeAny_extend_loopS (UO (A:=A.in1) hh S).toS (by rw[lo];exact Ad (by lia)) s.heap.objs.size K _ os.length 0 _ #[] c1 rfl (Nat.zero_le _) x3 p (ItemsOf.nil _) fun g i c' f v C=>⟨i,c',rfl,v,?_⟩
  rw[Moved.eq_with f]
  have V:i.toList=os:=by
   refine List.ext_getElem? fun j=>?_
   rw[Array.getElem?_toList]
   by_cases hj:j<i.size
   ·rw[Array.getElem?_eq_getElem hj]
    exact(C.2 j _ (Array.getElem?_eq_getElem hj)).symm
   ·rw[Array.getElem?_eq_none (by lia),List.getElem?_eq_none (by rw[<-C.1];lia)]
  obtain⟨zs,q1,q2⟩:=Eu pm.symm Y.st
  rw[V]
  have kk:∀b u,s.heap.get? b=some u->g.heap.get? b=some u:=fun b u e=>by
   have y:=Heap.lt_size e
   refine f.heap b u (fun k=>?_) (k3 b u (Nat.ne_of_lt y) (k2 b u (k1 b u e)))
   rcases List.mem_cons.mp k with e'|k
   ·exact absurd y (by rw[e'];exact Nat.lt_irrefl _)
   ·rw[List.mem_singleton.mp k]at y
    exact absurd (Nat.lt_of_lt_of_le (Nat.lt_succ_self _) n) (Nat.not_lt.mpr (Nat.le_of_lt y))
  exact h g.heap g.toks M os zs kk (Nat.le_of_lt (Heap.lt_size v)) q1 (q2.trans Y.pm)
 have fin:∀{g:Shared} {r:Result},(∃d c,r=.ok (.ret (.ref s.heap.objs.size))/\g.heap.get? s.heap.objs.size=some {cls:=.type "list",dict:=none,data:=.seq d c,slots:= #[]}/\Q d.toList g)->r=.ok (.ret (.ref s.heap.objs.size))/\wpAny (model prog w) A (load s.heap.objs.size>>=fun o=>match o.data with| .seq xs _=>pure xs.toList|_=>unsupported "internal:collect") Q E g:=fun⟨d,c,e,v,q⟩=>⟨e,wpAny_bind (wpAny_load v (wpAny_pure q))⟩
 refine wpAny_ite_split (fun _=>?_) (fun hz=>absurd (by decide) hz)
 refine wpAny_bind (wpAny_rule ?_)
 refine wpAny_bind ?_
 show wpAny _ _ (updateSeq s.heap.objs.size (·.push .none)>>=fun _=>updateSeq s.heap.objs.size (·.pop)) _ _ _
 refine wpAny_bind (wpAny_updateSeq L rfl ?_)
 have p:=Heap.get?_update_self (Obj.mapSeq (·.push Value.none)) L rfl
 refine wpAny_updateSeq (hz:=by seq_fits) p rfl ?_
 have W:=Heap.get?_update_self (Obj.mapSeq (·.pop)) p rfl
 have Nk:∀b u,b≠s.heap.objs.size->N.get? b=some u->((N.update s.heap.objs.size (Obj.mapSeq (·.push Value.none))).update s.heap.objs.size (Obj.mapSeq (·.pop))).get? b=some u:=fun b u y e=>(Heap.get?_update_other _ _ (Ne.symm y)).trans ((Heap.get?_update_other _ _ (Ne.symm y)).trans e)
 refine wpAny_pure ⟨plainId_quiet PySem.F.plain_extend_loop _,codeAny_mono (U _ _ (x.keep fun b y o e=>Nk b o (fun z=>K (by rw[<-z];exact y)) e) Nk (by simp[Heap.update]) W) fun r g hr=>?_⟩
 obtain⟨e,q⟩:=fin hr
 subst e
 exact q
end
section
variable{X:Cx}
def cN (P:Program) (w:World) (p:Addr) (ss:List Str):HO:=.ext fun h=>SS P w h p ss
inductive We (K:ACh) (P:Program) (w:World) (xs:List V) (H:Hp) (Q:VK):Prop
 |mk (l:Addr) (ss:List Str) (a:xs=[.ref l]) (b:Ah K H l (ss.map V.str)) (c:ss.Nodup) (d:ss.length<1000) (e:∀p,H p=none->Q (.ref p) (upd H p (cN P w p ss))):We K P w xs H Q
theorem UP (d:X.calm=true):BJ X (.type "set") (We X.K X.prog X.w):=by
 intro pins s A H B f Q I r h
 obtain⟨l,C,rfl,g,nd,i,q⟩:=h
 obtain⟨u,rfl,j⟩:=vals1 r
 cases j
 obtain⟨m,n,p,_⟩:=I.list g
 refine LU (I.ok.hd d) p.isList (by rw[List.toList_toArray];exact G_ n) nd i fun v y c z=>?_
 have a:∀b o,s.heap.get? b=some o->v.get? b=some o:=fun b o e=>z b o (Heap.lt_size e) e
 refine⟨.ref s.heap.objs.size,_,I.laid (t':=y) a (Nat.le_refl _) ?_,rfl,q _ I.fresh⟩
 obtain⟨o,D,E,t,f,Y⟩:=id c
 exact⟨c,⟨o,Y.at_⟩,fun F G x k=>x.keep k⟩
inductive RO (P:Program) (w:World) (xs:List V) (H:Hp) (Q:VK):Prop
 |mk (d:Addr) (ss:List Str) (c:xs=[.ref d]) (e:H d=some (cN P w d ss)) (f:ss.length<64) (g:∀(p:Addr) (a:List Str) (b:Hp),H p=none->AG H b->b p=some (.lst (a.map V.str))->a.Perm ss->sortedS a=true->Q (.ref p) b):RO P w xs H Q
theorem Inv.drawn {pins:List (Addr×Obj)} {σ:St} {H:Hp} {s:Shared} (I:Inv X pins σ H s) (a:Drawn):Inv X pins σ H {s with drawn:=a}:=⟨I.ok,I.os,I.bare,I.base,I.loc,I.cell,I.free,I.Dl,I.pin,I.BO,I.len⟩
theorem NM (E:X.calm=true):BJ X (.builtin "sorted") (RO X.prog X.w):=by
 intro pins s T H U W Q I r h
 obtain⟨d,n,rfl,hd,F,q⟩:=h
 obtain⟨u,rfl,G⟩:=vals1 r
 cases G
 have J:SS X.prog X.w s.heap d n:=(show Ay X.prog X.w H s.heap d (cN X.prog X.w d n)from I.BO d _ hd).1
 refine Calls.call_function_entry kind_sorted plain_sorted entry_sorted (args_sorted1 _) ?_
 unfold Builtin.«sorted»
 refine wpAny_bind (m:=checkCount "sorted" 1 1 _) (wpAny_pure (wpAny_bind (PR (A:=X.A.in1) (I.ok.hd E) J (by lia) fun c p K a L keep _ g t=>?_)))
 have M:a.length=L.length:=Dw g
 have N:=t.length_eq
 have v:a.length<=sizeLine:=Ad (by lia)
 refine wpAny_bind (wpAny_newList ?_ v)
 have f:(c.push {cls:=.type "list",data:=.seq a.toArray}).get? c.objs.size=some (seqObj "list" a.toArray 0):=Heap.get?_push_size _ rfl
 refine wpAny_bind (wpAny_holding (wpAny_call_entry slot_list_sort ⟨_,f,rfl⟩ entry_list_sort (list_sort_treeK strKind_oneLt f g.keysOf (fun x y rest e=>keyKind_strs (by rw[<-e];exact g)) (by lia) fun i a1 a2=>⟨_,rfl,?_⟩) (args_list_sort _)))
 obtain⟨j,O,z,P⟩:=sorted_out_str g a1 a2
 obtain⟨R,S⟩:=sortedHeap_at (out:=(arrOf i).map (·.2)) f
 refine wpAny_pure ⟨_,rfl,?_⟩
 have k:(c.push {cls:=.type "list",data:=.seq a.toArray}).objs.size=c.objs.size+1:=size_push' ..
 have B:=(I.kept (t':=p) keep).drawn K
 have k2:∀b o,c.get? b=some o->(sortedHeap (c.push {cls:=.type "list",data:=.seq a.toArray}) c.objs.size a ((arrOf i).map (·.2))).get? b=some o:=fun b o e=>by
  have C:b<c.objs.size:=Heap.lt_size e
  rw[sortedHeap_old (Nat.ne_of_lt C) (by rw[k];exact Nat.lt_succ_of_lt C)]
  exact Heap.get?_push_of_some _ e
 have l:j.length<=sizeLine:=by
  rw[z.length_eq,<-M]
  exact v
 have new:Ay X.prog X.w (upd H c.objs.size (.lst (j.map V.str))) (sortedHeap (c.push {cls:=.type "list",data:=.seq a.toArray}) c.objs.size a ((arrOf i).map (·.2))) c.objs.size (.lst (j.map V.str)):=
  ⟨by rw[List.length_map];exact l,((arrOf i).map (·.2)).toList,R,Fu O,by rw[Array.toArray_toList];exact S⟩
 have D:H c.objs.size=none:=B.fresh
 exact⟨.ref c.objs.size,_,B.laid (t':=p) k2 (Nat.le_refl _) new,rfl,q _ j _ D (AG.new D) AE (z.trans t) P⟩
end
open PySem.AutoSeq1 (wpAny_loadPart')
open PySem.MeetsSeq3
section
variable{prog:Program} {w:World} {A:Around} {s:Shared}
def Wg (prog:Program) (w:World) (A:Around) (s:Shared) (u v:Value) (b:Bool):Prop:=∀(E:Value->Shared->Prop) (Q:Bool->Shared->Prop),Q b s->wpAny (model prog w) A (eqBool u v) Q E s
def cO (prog:Program) (w:World) (A:Around) (s:Shared) (u v:Value) (b:Bool):Prop:=∀(E:Value->Shared->Prop) (Q:Value->Shared->Prop),Q (.bool b) s->wpAny (model prog w) A (richCompare .Eq u v) Q E s
theorem Wg.of {u v:Value} {b:Bool} (h:SeqAt.EqAt A s u v b):Wg prog w A s u v b:=fun E Q a=>h prog w E Q a
theorem cO.of {u v:Value} {b:Bool} (h:SeqAt.RcAt A s u v b):cO prog w A s u v b:=fun E Q a=>h prog w E Q a
theorem Wg.by {u v:Value} {b:Bool} (g:u=v->b=true) (nf:(∃i t,u=.int i t)∨(∃x t,u=.str x t)∨(∃c,u=.bool c)∨∃a,u=.ref a) (h:cO prog w A s u v b):Wg prog w A s u v b:=fun E Q f=>by
 by_cases e:u=v
 ·have:=g e
  subst e this
  exact SeqAt.EqAt.same _ prog w E Q f
 ·unfold eqBool
  refine wpAny_holding (wpAny_ite_split (fun d=>absurd (eq_of_beq d) e) (fun _=>?_))
  rcases nf with⟨i,t,rfl⟩|⟨x,t,rfl⟩|⟨c,rfl⟩|⟨a,rfl⟩<;>exact wpAny_bind (h E _ (wpAny_truthy_bool f))
theorem Wh {l b:Addr} {items a:Array Value} {n D:Nat} {E t:Option Addr} {sl u:Array (Option Value)} (hsz:items.size=a.size) (hl:s.heap.get? l=some {cls:=.type "list",dict:=E,data:=.seq items n,slots:=sl})
  (q:s.heap.get? b=some {cls:=.type "list",dict:=t,data:=.seq a D,slots:=u}) {e:Nat->Bool} (F:∀j (M:j<items.size) (N:j<a.size),Wg prog w A.in1 s items[j] a[j] (e j)) {R:Result->Shared->Prop} {r:Bool} (B:r=true↔∀j,j<items.size->e j=true) (C:R (.ok (.ret (.bool r))) s):
  ∀k i:Nat,items.size-i=k->i<=items.size->(∀j,j<i->e j=true)->codeAny (model prog w) A (.builtin "list.__eq__.loop" ⟨[.ref l,.ref b,rawInt i,rawInt 2],[]⟩) R s:=by
 obtain⟨O,g,d,P,os⟩:=s
 intro k
 induction k with
 |zero=>
  intro i G H c
  have I:i=items.size:=by lia
  have v:r=true:=B.mpr fun j J=>c j (by lia)
  subst v
  refine codeAny_builtin entry_eq_loop ?_
  rw[Around.under_plainId plain_eq_loop _]
  wp_walk using wpAny_loadPart' hl,wpAny_loadPart' q
  have f:items[((i:Nat):Int).toNat]?=none:=by simp;lia
  have h:a[((i:Nat):Int).toNat]?=none:=by simp;lia
  rw[f,h]
  wp_walk using wpAny_loadPart' hl,wpAny_loadPart' q
  show R (.ok (.ret (.bool (items.size==a.size)))) _
  rw[hsz]
  simpa using C
 |succ k K=>
  intro i G H c
  refine codeAny_builtin entry_eq_loop ?_
  rw[Around.under_plainId plain_eq_loop _]
  wp_walk using wpAny_loadPart' hl,wpAny_loadPart' q
  have m:i<items.size:=by lia
  have o:i<a.size:=by lia
  have f:items[((i:Nat):Int).toNat]?=some items[i]:=by simp[m]
  have h:a[((i:Nat):Int).toNat]?=some a[i]:=by simp[o]
  have L:((i:Int)+1)=((i+1:Nat):Int):=by push_cast;rfl
  rw[f,h]
  refine wpAny_bind (F i m o _ _ ?_)
  cases p:e i with
  |true=>
   wp_walk
   rw[L]
   refine⟨plainId_quiet plain_eq_loop _,K (i+1) (by lia) m fun j J=>?_⟩
   rcases Nat.lt_or_ge j i with z|z
   ·exact c j z
   ·rw[show j=i by lia];exact p
  |false=>
   have x:r=false:=by
    cases y:r with
    |false=>rfl
    |true=>have:=B.mp y i m;rw[p]at this;cases this
   subst x
   wp_walk using wpAny_loadPart' hl,wpAny_loadPart' q
   rw[f,h]
   wp_walk
   exact C
theorem Wi {l b:Addr} {items a:Array Value} (hl:s.heap.IsList l items) (q:s.heap.IsList b a) (hsz:items.size=a.size) (t:A.units<cLine) {e:Nat->Bool}
  (u:∀j (G:j<items.size) (H:j<a.size),Wg prog w A.in1 s items[j] a[j] (e j)) {r:Bool} (v:r=true↔∀j,j<items.size->e j=true):cO prog w A s (.ref l) (.ref b) r:=fun E Q h=>by
 obtain⟨⟨y,I,data,J⟩,k,m,n,o⟩:=id hl
 obtain⟨⟨p,z,data2,B⟩,c,f,K,i⟩:=id q
 simp only at m o f i
 subst m o f i
 refine wpAny_richCompare_same_room (op:=.Eq) ⟨_,k,rfl⟩ ⟨_,c,rfl⟩ F.slot_list_eq (call_one F.slot_list_eq ⟨_,k,rfl⟩ F.entry_list_eq (F.args_list_eq_2 _ _) ?_) t
 obtain⟨L,g,d,M,os⟩:=s
 have N:=AutoSeq1.sub_list_list
 have C:¬(items.size !=a.size)=true:=by simp[hsz]
 wp_walk using wpAny_loadPart' k,wpAny_loadPart' c
 exact⟨plainId_quiet plain_eq_loop _,Wh hsz k c u v (show(Value.bool r≠Value.notImplemented)/\Q (.bool r) _ from⟨(fun x=>nomatch x),h⟩) _ 0 rfl (Nat.zero_le _) fun j D=>absurd D (Nat.not_lt_zero _)⟩
theorem Wj {Y:Type} [DecidableEq Y] {knd:PySem.KeyKind prog w Y} {a b:Addr} {t y:List (Y×Value)} (ha:(a==sysModules)=false) (hb:(b==sysModules)=false) (W:s.heap.DictOf knd a t) (Z:s.heap.DictOf knd b y) (hu:A.units<cLine) {e:Nat->Bool}
  (he:t.length=y.length->∀(j:Nat) k u,t[j]?=some (k,u)->(valueAt y k=none/\e j=false)∨∃v,valueAt y k=some v/\Wg prog w A.in1 s u v (e j)) {r:Bool} (hr:r=true↔(t.length=y.length/\∀j,j<t.length->e j=true)):cO prog w A s (.ref a) (.ref b) r:=fun E Q h=>by
 refine wpAny_richCompare_same_room (op:=.Eq) W.typeIs Z.typeIs PySem.F.slot_dict_eq (wpAny_call_entry PySem.F.slot_dict_eq W.typeIs PySem.F.entry_dict_eq ?_ (PySem.F.args_dict_eq_2 _ _)) hu
 show wpAny _ _ (Builtin.Dict.dictSlotArgs "__eq__" ⟨[.ref a,.ref b],[]⟩>>=_) _ _ s
 refine wpAny_bind ?_
 unfold Builtin.Dict.dictSlotArgs
 refine wpAny_bind (wpAny_notOrdered_dict W.typeIs ?_)
 show wpAny _ _ (pure (Value.ref a,Value.ref b)) _ _ s
 refine wpAny_pure ?_
 refine wpAny_bind (wpAny_isInstance (T:="dict") Z.typeIs PySem.F.sub_dict_dict ?_)
 simp only[Bool.not_true,Bool.false_eq_true,if_false]
 refine wpAny_bind (wpAny_pure (wpAny_bind (wpAny_pure ?_)))
 obtain⟨oa,g,ep,B,_,C,JW,P,hna⟩:=W
 obtain⟨ob,m,ep',D,_,G,R,J,hnb⟩:=Z
 have K:t.length=g.size:=by rw[<-P.length];exact Array.length_toList
 have L:y.length=m.size:=by rw[<-J.length];exact Array.length_toList
 refine wpAny_bind ?_
 unfold Builtin.Dict.samePairs Builtin.Dict.showsAll
 rw[if_neg (show¬(a==sysModules)=true by rw[ha];exact Bool.false_ne_true),if_neg (show¬(b==sysModules)=true by rw[hb];exact Bool.false_ne_true)]
 refine wpAny_bind (wpAny_pure (wpAny_bind (wpAny_pure ?_)))
 refine wpAny_bind (wpAny_dictEntries B C ?_)
 dsimp only
 refine wpAny_bind (wpAny_dictEntries D G ?_)
 have fin:∀c:Bool,c=r->∃v,Fin.done (Flow.ret (Value.bool (c==true)))=.done (.ret v)/\v≠.notImplemented/\Q v s:=fun c hc=>by
  subst hc
  refine⟨_,rfl,(fun x=>nomatch x),?_⟩
  cases c<;>exact h
 by_cases S:t.length=y.length
 ·rw[if_neg (by rw[<-K,<-L,S];simp)]
  refine wpAny_bind (wpAny_dictEpoch B C ?_)
  refine wpAny_bind ?_
  rw[Std.Legacy.Range.forIn_eq_forIn_range']
  simp only[Std.Legacy.Range.size,Nat.sub_zero,Nat.add_sub_cancel,Nat.div_one]
  refine wpAny_forIn_list _ (fun rest q s'=>s'=s/\q=(none,())/\∃i,rest=List.range' i (g.size-i)/\i<=g.size/\∀j,j<i->e j=true) _ ?_ ?_ _ _ ⟨rfl,rfl,0,by simp,Nat.zero_le _,fun j M=>absurd M (Nat.not_lt_zero _)⟩
  ·rintro x rest q s' ⟨rfl,rfl,i,f,hi,n⟩
   have o:i<g.size:=by
    rcases Nat.lt_or_ge i g.size with h|h
    ·exact h
    ·rw[Nat.sub_eq_zero_of_le h]at f;simp at f
   obtain⟨rfl,N⟩:x=i/\rest=List.range' (i+1) (g.size-(i+1)):=by
    have e:g.size-i=(g.size-(i+1))+1:=by lia
    rw[e,List.range'_succ]at f
    injection f with h1 h2
    exact⟨h1,h2⟩
   have H:x<t.length:=by rw[K];exact o
   obtain⟨k,u,xf⟩:∃k u,t[x]=(k,u):=⟨_,_,rfl⟩
   have gk:t[x]?=some (k,u):=by rw[ACd H,xf]
   have hh:=he S x k u gk
   refine wpAny_bind (wpAny_dictEntries B C ?_)
   rw[Array.getElem?_eq_getElem o]
   obtain⟨I,U⟩:=P.get? (i:=x) (e:=g[x]) (k:=k) (v:=u) (by rw[Array.getElem?_toList];exact Array.getElem?_eq_getElem o) gk
   obtain⟨k2,xg,V⟩:=JW g[x] (Array.getElem_mem o)
   have xh:k2=k:=knd.inj _ _ _ xg I
   rw[xh]at V
   show wpAny _ _ (holding [g[x].key,g[x].val] _>>=_) _ _ _
   rw[V]
   refine wpAny_bind (wpAny_holding (wpAny_bind (wpAny_dictFind_of I D G R ?_)))
   have d:findBy knd.is m k=valueAt y k:=by
    rw[<-J.find k]
    clear L J R G D
    obtain⟨l⟩:=m
    simp[findBy]
   have rf:e x=false->false=r:=fun O=>by
    cases f:r with
    |false=>rfl
    |true=>have:=(hr.mp f).2 x H;rw[O]at this;cases this
   cases M:m.findIdx? fun e=>knd.is k e.key with
   |none=>
    rw[findBy_of_findIdx?,M]at d
    have hn:valueAt y k=none:=d.symm
    rcases hh with⟨_,O⟩|⟨v,X,_⟩
    ·refine wpAny_pure ?_
     show wpAny _ _ (if(!false)=true then _ else _) _ _ _
     rw[if_pos (by decide)]
     exact wpAny_pure (wpAny_pure (wpAny_pure (fin false (rf O))))
    ·rw[hn]at X;cases X
   |some j=>
    obtain⟨p,_,_⟩:=Array.findIdx?_eq_some_iff_getElem.mp M
    rw[findBy_of_findIdx?,M]at d
    rcases hh with⟨hn,_⟩|⟨v,X,hq⟩
    ·rw[hn]at d
     simp[Array.getElem?_eq_getElem p]at d
    have xi:m[j].val=v:=by
     rw[X]at d
     simpa[Array.getElem?_eq_getElem p]using d
    refine wpAny_bind (wpAny_dictEntries D G ?_)
    rw[Array.getElem?_eq_getElem p]
    refine wpAny_holding ?_
    rw[xi,U]
    refine hq _ _ ?_
    cases O:e x with
    |true=>
     show wpAny _ _ (if(!true)=true then _ else _) _ _ _
     rw[if_neg (by decide)]
     refine wpAny_bind (wpAny_dictEpoch B C ?_)
     rw[if_neg (by simp)]
     refine wpAny_pure ⟨rfl,rfl,x+1,N,o,fun j M=>?_⟩
     rcases Nat.lt_or_ge j x with z|z
     ·exact n j z
     ·rw[show j=x by lia];exact O
    |false=>
     show wpAny _ _ (if(!false)=true then _ else _) _ _ _
     rw[if_pos (by decide)]
     exact wpAny_pure (wpAny_pure (wpAny_pure (fin false (rf O))))
  ·rintro q s' ⟨rfl,rfl,i,f,hi,n⟩
   have hie:i=g.size:=by
    rcases Nat.lt_or_ge i g.size with h|h
    ·have e:g.size-i=(g.size-(i+1))+1:=by lia
     rw[e,List.range'_succ]at f;cases f
    ·lia
   exact wpAny_pure (wpAny_pure (fin true (hr.mpr ⟨S,fun j M=>n j (by lia)⟩).symm))
 ·rw[if_pos (by rw[<-K,<-L];simpa using S)]
  have xk:false=r:=by
   cases f:r with
   |false=>rfl
   |true=>exact absurd (hr.mp f).1 S
  exact wpAny_bind (wpAny_rule (wpAny_pure (wpAny_pure (fin false xk))))
end
namespace Pt
theorem UQ {y k:Str} {r:List Str} {z:Pt} {zs:List Pt}:look (y::r) (z::zs) k=if k=y then some z else look r zs k:=DL
theorem Fe {ls:List Str} {ys:List Pt}:∀{ks:List Str} {xs:List Pt},LQ ks xs ls ys=true↔∀(j:Nat) k x,ks[j]?=some k->xs[j]?=some x->∃y,look ls ys k=some y/\Bf x y=true
 |[],xs=>by simp[LQ]
 |_::_,[]=>by simp[LQ]
 |k::ks,x::xs=>by
  simp only[LQ,Bool.and_eq_true,Fe (ks:=ks) (xs:=xs)]
  constructor
  ·intro⟨a,d⟩ j e f b c
   cases j with
   |zero=>
    simp at b c
    subst b c
    cases g:look ls ys k with
    |none=>rw[g]at a;cases a
    |some y=>rw[g]at a;exact⟨y,rfl,a⟩
   |succ j=>exact d j e f (by simpa using b) (by simpa using c)
  ·intro h
   refine⟨?_,fun j e f b c=>h (j+1) e f (by simpa using b) (by simpa using c)⟩
   obtain⟨y,a,d⟩:=h 0 k x rfl rfl
   rw[a]
   exact d
theorem NN:∀{ks:List Str} {xs:List Pt} {j:Nat} {k:Str} {x:Pt},ks.Nodup->ks[j]?=some k->xs[j]?=some x->look ks xs k=some x
 |[],_,_,_,_,_,h,_=>by simp at h
 |_::_,[],_,_,_,_,_,h=>by simp at h
 |y::ks,z::zs,j,k,x,nd,b,c=>by
  obtain⟨d,f⟩:=List.nodup_cons.mp nd
  rw[UQ]
  cases j with
  |zero=>simp at b c;rw[if_pos b.symm,c]
  |succ j=>
   have a:ks[j]?=some k:=by simpa using b
   rw[if_neg (fun e=>d (by rw[<-e];exact ACg a))]
   exact NN f a (by simpa using c)
mutual
def Nl:Pt->Prop
 |int _|str _|bl _=>True
 |lst xs|tup xs=>Kf xs
 |BM ks xs=>ks.Nodup/\Kf xs
def Kf:List Pt->Prop
 |[]=>True
 |x::r=>Nl x/\Kf r
end
mutual
theorem Kg:∀t:Pt,t.nice->t.Nl
 |int _,_=>trivial
 |str _,_=>trivial
 |bl _,_=>trivial
 |lst xs,d=>by simp only[nice]at d;exact JX xs d.2
 |tup xs,d=>by simp only[nice]at d;exact JX xs d.2
 |BM ks xs,d=>by simp only[nice]at d;exact⟨d.2.1,JX xs d.2.2.2⟩
theorem JX:∀xs:List Pt,DK xs->Kf xs
 |[],_=>trivial
 |x::r,d=>by simp only[DK]at d;exact⟨Kg x d.1,JX r d.2⟩
end
mutual
theorem Wk:∀t:Pt,t.doc->t.Nl
 |int _,_=>trivial
 |str _,_=>trivial
 |bl _,_=>trivial
 |tup _,d=>by simp[doc]at d
 |lst xs,d=>by simp only[doc]at d;exact RP xs d
 |BM ks xs,d=>by simp only[doc]at d;exact⟨d.2.1,RP xs d.2.2.2.2⟩
theorem RP:∀xs:List Pt,CU xs->Kf xs
 |[],_=>trivial
 |x::r,d=>by simp only[CU]at d;exact⟨Wk x d.1,RP r d.2⟩
end
mutual
theorem EY:∀t:Pt,t.Nl->Bf t t=true
 |int _,_=>by simp[Bf]
 |str _,_=>by simp[Bf]
 |bl _,_=>by simp[Bf]
 |lst xs,d=>by simp only[Nl]at d;simp only[Bf];exact F' xs d
 |tup xs,d=>by simp only[Nl]at d;simp only[Bf];exact F' xs d
 |BM ks xs,d=>by
  simp only[Nl]at d
  simp only[Bf,beq_self_eq_true,Bool.true_and]
  refine Fe.mpr fun j k x b a=>⟨x,NN d.1 b a,?_⟩
  have:=F' xs d.2
  exact Sg xs this j x a
theorem F':∀xs:List Pt,Kf xs->CO xs xs=true
 |[],_=>by simp[CO]
 |x::r,d=>by simp only[Kf]at d;simp only[CO,Bool.and_eq_true];exact⟨EY x d.1,F' r d.2⟩
theorem Sg:∀xs:List Pt,CO xs xs=true->∀(j:Nat) x,xs[j]?=some x->Bf x x=true
 |[],_,j,x,h=>by simp at h
 |y::r,h,0,x,a=>by
  simp only[CO,Bool.and_eq_true]at h
  simp at a
  subst a
  exact h.1
 |y::r,h,j+1,x,a=>by
  simp only[CO,Bool.and_eq_true]at h
  exact Sg r h.2 j x (by simpa using a)
end
end Pt
section
variable{K:ACh} [BA K]
theorem Rd.one {H:Hp} {a:Addr} {u v:HO} (h:Rd H a u) (h':Rd H a v) (b:∀o z,u≠.CZ o z) (c:∀o z,v≠.CZ o z):u=v:=by
 rcases h with h|⟨o,h⟩<;>rcases h' with h'|⟨d,h'⟩<;>rw[h]at h'
 ·exact ACf h'
 ·exact absurd (ACf h') (b _ _)
 ·exact absurd (ACf h').symm (c _ _)
 ·have:=ACf h'
  injection this
theorem NO:∀{ks ls:List Str},ks.map (Sum.inr:Str->Key)=ls.map Sum.inr->ks=ls
 |[],[],_=>rfl
 |[],_::_,h=>by simp at h
 |_::_,[],h=>by simp at h
 |k::ks,l::ls,h=>by
  simp only[List.map_cons,List.cons.injEq]at h
  rw[Sum.inr.inj h.1,NO h.2]
mutual
theorem Val.one {H:Hp}:∀(s:Pt) {v:V} {t:Pt},Val H v s->Val H v t->s.doc->t.doc->s=t
 | .int i,_,t,.int _,h,_,d=>by cases h;rfl
 | .str x,_,t,.str _,h,_,d=>by cases h;rfl
 | .bl _,_,_,_,_,d,_=>by simp[Pt.doc]at d
 | .tup _,_,_,_,_,d,_=>by simp[Pt.doc]at d
 | .lst ts,_,t,.lst b c,h,d,d'=>by
  cases h with
  |lst a f=>
   have e:=Rd.one b a (fun o z e=>by cases e) (fun o z e=>by cases e)
   cases e
   simp only[Pt.doc]at d d'
   rw[Aa.one ts c f d d']
  |tup _ _=>simp[Pt.doc]at d'
  |BM a _ _=>
   have e:=Rd.one b a (fun o z e=>by cases e) (fun o z e=>by cases e)
   cases e
 | .BM k ts,_,t,.BM b j c,h,d,d'=>by
  cases h with
  |BM a g f=>
   have e:=Rd.one b a (fun o z e=>by cases e) (fun o z e=>by cases e)
   cases e
   simp only[Pt.doc]at d d'
   rw[Aa.one ts c f d.2.2.2.2 d'.2.2.2.2]
   congr 1
   rw[j]at g
   exact NO g
  |tup _ _=>simp[Pt.doc]at d'
  |lst a _=>
   have e:=Rd.one b a (fun o z e=>by cases e) (fun o z e=>by cases e)
   cases e
theorem Aa.one {H:Hp}:∀(ss:List Pt) {vs:List V} {ts:List Pt},Aa H vs ss->Aa H vs ts->Pt.CU ss->Pt.CU ts->ss=ts
 |[],_,_,.nil,h,_,_=>by cases h;rfl
 |s::ss,_,_,.cons h r,h',d,d'=>by
  cases h' with
  |cons g q=>
   simp only[Pt.CU]at d d'
   rw[Val.one s h g d.1 d'.1,Aa.one ss r q d.2 d'.2]
end
def ja (s t:Pt):Prop:=(s.doc/\t.doc)∨Pt.Bf s t=true
def ME (ls:List Str) (ts:List Pt) (k:Str) (x:Pt):Bool:=match Pt.look ls ts k with
 |some y=>Pt.Bf x y
 |none=>false
theorem Gb {ls:List Str} {ts:List Pt} {k:Str} {x y:Pt} (h:Pt.look ls ts k=some y):ME ls ts k x=Pt.Bf x y:=by unfold ME;rw[h]
theorem Kh {ls:List Str} {ts:List Pt} {k:Str} {x:Pt} (h:Pt.look ls ts k=none):ME ls ts k x=false:=by unfold ME;rw[h]
def cP (ks:List Str) (ps:List Pt) (ls:List Str) (ts:List Pt) (j:Nat):Bool:=match ks[j]?,ps[j]? with
 |some k,some x=>ME ls ts k x
 |_,_=>false
theorem NP {ks ls:List Str} {ps ts:List Pt} {j:Nat} {k:Str} {x:Pt} (a:ks[j]?=some k) (b:ps[j]?=some x):cP ks ps ls ts j=ME ls ts k x:=by unfold cP;rw[a,b]
theorem GA {xs ys:List Pt} (l:xs.length=ys.length):Pt.CO xs ys=true↔∀j,j<xs.length->pairE xs ys j=true:=by
 rw[<-KD l,List.all_eq_true]
 exact⟨fun h j a=>h j (List.mem_range.mpr a),fun h j a=>h j (List.mem_range.mp a)⟩
end
section
variable{X:Cx} [BA X.K] {pins:List (Addr×Obj)} {σ:St} {H:Hp} {s:Shared}
theorem Yt {x:V} {t:Pt} {u:Value} (h:Val H x t) (r:RelV x u):(∃i t,u=.int i t)∨(∃x t,u=.str x t)∨(∃c,u=.bool c)∨∃a,u=.ref a:=by
 cases h with
 |int i=>exact .inl ⟨i,r⟩
 |str x=>exact .inr (.inl ⟨x,r⟩)
 |bl b=>exact .inr (.inr (.inl ⟨b,r⟩))
 |@lst a _ _ _ _=>exact .inr (.inr (.inr ⟨a,r⟩))
 |@tup a _ _ _ _=>exact .inr (.inr (.inr ⟨a,r⟩))
 |@BM a _ _ _ _ _ _=>exact .inr (.inr (.inr ⟨a,r⟩))
theorem tj (I:Inv X pins σ H s) {p t:Pt} (ih:∀p':Pt,p'.deep<p.deep->∀t',ja p' t'->∀{x y:V},Val H x p'->Val H y t'->∀{A:Around} {u v:Value},A.units+p'.deep<cLine->RelV x u->RelV y v->Wg X.prog X.w A s u v (Pt.Bf p' t')) (nb:∀b,p≠.bl b) (c:ja p t) {x y:V} (hx:Val H x p) (hy:Val H y t) {A:Around} {u v:Value} (hu:A.units+p.deep<cLine) (ru:RelV x u) (m:RelV y v):cO X.prog X.w A s u v (Pt.Bf p t):=by
 have f:A.units<cLine:=by lia
 cases hx with
 |int i=>
  obtain⟨q,rfl⟩:∃t,u=Value.int i t:=ru
  cases hy with
  |int j=>obtain⟨o,rfl⟩:∃t,v=Value.int j t:=m;simp only[Pt.Bf];exact .of (SeqAt.RcAt.int_int i q j o)
  |str z=>obtain⟨o,rfl⟩:∃t,v=Value.str z t:=m;simp only[Pt.Bf];exact .of (SeqAt.RcAt.int_str i q z o)
  |bl b=>rcases c with⟨_,d⟩|c;(·simp[Pt.doc]at d);simp[Pt.Bf]at c
  |tup _ _=>rcases c with⟨_,d⟩|c;(·simp[Pt.doc]at d);simp[Pt.Bf]at c
  |@lst b O r B D=>
   cases(show v=Value.ref b from m)
   obtain⟨E,S,P,_⟩:=I.list (.inl B)
   simp only[Pt.Bf]
   exact .of (SeqAt.RcAt.int_list i q P.isList f)
  |@BM b kvs Q r B T D=>
   cases(show v=Value.ref b from m)
   obtain⟨_,dd,es,n,sl,J,_⟩:=II I B
   simp only[Pt.Bf]
   exact .of (Oi i q J f)
 |str x0=>
  obtain⟨q,rfl⟩:∃t,u=Value.str x0 t:=ru
  cases hy with
  |int j=>obtain⟨o,rfl⟩:∃t,v=Value.int j t:=m;simp only[Pt.Bf];exact .of (SeqAt.RcAt.str_int x0 q j o)
  |str z=>obtain⟨o,rfl⟩:∃t,v=Value.str z t:=m;simp only[Pt.Bf];exact .of (SeqAt.RcAt.str_str x0 q z o)
  |bl b=>rcases c with⟨_,d⟩|c;(·simp[Pt.doc]at d);simp[Pt.Bf]at c
  |tup _ _=>rcases c with⟨_,d⟩|c;(·simp[Pt.doc]at d);simp[Pt.Bf]at c
  |@lst b O r B D=>
   cases(show v=Value.ref b from m)
   obtain⟨E,S,P,_⟩:=I.list (.inl B)
   simp only[Pt.Bf]
   exact .of (SeqAt.RcAt.str_list x0 q P.isList f)
  |@BM b kvs Q r B T D=>
   cases(show v=Value.ref b from m)
   obtain⟨_,dd,es,n,sl,J,_⟩:=II I B
   simp only[Pt.Bf]
   exact .of (Ol x0 q J f)
 |bl b=>exact absurd rfl (nb b)
 |@lst a xl C U W=>
  cases(show u=Value.ref a from ru)
  obtain⟨lj,r0,p0,_⟩:=I.list (.inl U)
  have e0:lj.toArray.size=C.length:=by rw[List.size_toArray,<-r0.length,W.length]
  simp only[Pt.deep]at hu
  cases hy with
  |int j=>obtain⟨o,rfl⟩:∃t,v=Value.int j t:=m;simp only[Pt.Bf];exact .of (SeqAt.RcAt.list_int j o p0.isList f)
  |str z=>obtain⟨o,rfl⟩:∃t,v=Value.str z t:=m;simp only[Pt.Bf];exact .of (SeqAt.RcAt.list_str z o p0.isList f)
  |bl b=>rcases c with⟨_,d⟩|c;(·simp[Pt.doc]at d);simp[Pt.Bf]at c
  |tup _ _=>rcases c with⟨_,d⟩|c;(·simp[Pt.doc]at d);simp[Pt.Bf]at c
  |@BM b kvs Q r B T D=>
   cases(show v=Value.ref b from m)
   obtain⟨_,dd,es,n,sl,J,_⟩:=II I B
   simp only[Pt.Bf]
   exact .of (Mz p0.isList J f)
  |@lst b O r B D=>
   cases(show v=Value.ref b from m)
   obtain⟨E,S,P,_⟩:=I.list (.inl B)
   have e1:E.toArray.size=r.length:=by rw[List.size_toArray,<-S.length,D.length]
   simp only[Pt.Bf]
   by_cases l:C.length=r.length
   ·refine Wi p0.isList P.isList (by rw[e0,e1,l]) f (e:=pairE C r) (fun j G h2=>?_) (by rw[e0];exact GA l)
    obtain⟨v1,q,g1,L,M,F⟩:=W.at r0 G
    obtain⟨v2,o,g3,g4,N,ly⟩:=D.at S h2
    have e:pairE C r j=Pt.Bf q o:=by simp[pairE,L,g4]
    rw[e]
    have dl:=Pt.Ao (ACg L)
    refine ih q (by simp only[Pt.deep];lia) o ?_ M N (by show A.units+1+_<cLine;lia) F ly
    rcases c with⟨d,d'⟩|c
    ·simp only[Pt.doc]at d d'
     exact .inl ⟨Pt.Ap d _ (ACg L),Pt.Ap d' _ (ACg g4)⟩
    ·simp only[Pt.Bf]at c
     exact .inr (by rw[<-e];exact(GA l).mp c j (by rw[<-e0];exact G))
   ·rw[B_ l]
    exact .of (SeqAt.RcAt.lists_lengths p0.isList P.isList (by rw[e0,e1];simpa using l) f)
 |@tup a xl C U W=>
  cases(show u=Value.ref a from ru)
  have Y:Pt.Bf (.tup C) t=true:=by
   rcases c with⟨d,_⟩|c
   ·simp[Pt.doc]at d
   ·exact c
  simp only[Pt.deep]at hu
  cases hy with
  |@tup b O r B D=>
   cases(show v=Value.ref b from m)
   simp only[Pt.Bf]at Y⊢
   have l:C.length=r.length:=by
    rcases Nat.lt_trichotomy C.length r.length with z|z|z
    ·rw[B_ (by lia)]at Y;cases Y
    ·exact z
    ·rw[B_ (by lia)]at Y;cases Y
   obtain⟨E,S,P,_⟩:=I.tuple U
   obtain⟨l_,r2,p2,_⟩:=I.tuple B
   have e1:E.toArray.size=C.length:=by rw[List.size_toArray,<-S.length,W.length]
   have e2:l_.toArray.size=r.length:=by rw[List.size_toArray,<-r2.length,D.length]
   rw[Y]
   refine Ly P p2 (by rw[e1,e2,l]) f fun j G h2=>?_
   obtain⟨v1,q,g1,L,M,F⟩:=W.at S G
   obtain⟨v2,o,g3,g4,N,ly⟩:=D.at r2 h2
   have e:pairE C r j=Pt.Bf q o:=by simp[pairE,L,g4]
   have et:Pt.Bf q o=true:=by rw[<-e];exact(GA l).mp Y j (by rw[<-e1];exact G)
   have dl:=Pt.Ao (ACg L)
   have:=ih q (by simp only[Pt.deep];lia) o (.inr et) M N (A:=A.in1) (by show A.units+1+_<cLine;lia) F ly
   rw[et]at this
   exact this
  |_=>simp[Pt.Bf]at Y
 |@BM a kvs Q C U JW W=>
  cases(show u=Value.ref a from ru)
  simp only[Pt.deep]at hu
  cases hy with
  |int j=>obtain⟨o,rfl⟩:∃t,v=Value.int j t:=m;obtain⟨_,dd,es,n,sl,J,_⟩:=II I U;simp only[Pt.Bf];exact .of (Oj j o J f)
  |str z=>obtain⟨o,rfl⟩:∃t,v=Value.str z t:=m;obtain⟨_,dd,es,n,sl,J,_⟩:=II I U;simp only[Pt.Bf];exact .of (Om z o J f)
  |bl b=>rcases c with⟨_,d⟩|c;(·simp[Pt.doc]at d);simp[Pt.Bf]at c
  |tup _ _=>rcases c with⟨_,d⟩|c;(·simp[Pt.doc]at d);simp[Pt.Bf]at c
  |@lst b O r B D=>
   cases(show v=Value.ref b from m)
   obtain⟨_,dd,es,n,sl,J,_⟩:=II I U
   obtain⟨E,S,P,_⟩:=I.list (.inl B)
   simp only[Pt.Bf]
   exact .of (M_ P.isList J f)
  |@BM b di ls r B eD D=>
   cases(show v=Value.ref b from m)
   obtain⟨z,hm,O,rel,dd⟩:=EI I.BO U
   obtain⟨z',xm,mB,Z,xn⟩:=EI I.BO B
   have k1:O.map (·.1)=Q.map Sum.inr:=by rw[<-JW];exact(KV.keys rel).symm
   have l1:O.length=Q.length:=by have:=congrArg List.length k1;simpa using this
   have l2:mB.length=ls.length:=by
    rw[<-Z.length]
    have:=congrArg List.length eD
    simpa using this
   have lp:Q.length=C.length:=by
    have G:=W.length
    rw[List.length_map]at G
    have h2:=congrArg List.length JW
    simp at h2
    lia
   refine Wj hm xm dd xn f (e:=cP Q C ls r) (fun ll j k u g=>?_) ?_
   ·have hj:j<O.length:=(ACe g).1
    have gv:(O.map (·.2))[j]?=some u:=by rw[List.getElem?_map,g];rfl
    have G:j<(O.map (·.2)).toArray.size:=by rw[List.size_toArray];exact(ACe gv).1
    obtain⟨v1,q,g1,L,M,F⟩:=W.at (Yb rel) G
    rw[WD gv G]at F
    obtain⟨nm,mC⟩:∃nm,Q[j]?=some nm:=⟨_,ACd (by lia)⟩
    have ek:k=Sum.inr nm:=by
     have:=congrArg (fun z=>z[j]?) k1
     simp only[List.getElem?_map,g,mC]at this
     simpa using this
    subst ek
    rw[NP mC L]
    have m:=Z.val (Sum.inr nm)
    rcases Val.C' eD D nm with⟨w1,o,q1,q2,N⟩|⟨q1,q2⟩
    ·rw[q1]at m
     rw[Gb q2]
     cases R:valueAt mB (Sum.inr nm)with
     |none=>rw[R]at m;exact m.elim
     |some u2=>
      rw[R]at m
      have dl:=Pt.Ao (ACg L)
      refine .inr ⟨u2,rfl,ih q (by simp only[Pt.deep];lia) o ?_ M N (by show A.units+1+_<cLine;lia) F m⟩
      rcases c with⟨d,d'⟩|c
      ·simp only[Pt.doc]at d d'
       exact .inl ⟨Pt.Ap d.2.2.2.2 _ (ACg L),Pt.Ap d'.2.2.2.2 _ (Pt.WJ q2).2⟩
      ·simp only[Pt.Bf,Bool.and_eq_true]at c
       obtain⟨y,y1,y2⟩:=Pt.Fe.mp c.2 j nm q mC L
       rw[q2]at y1
       cases y1
       exact .inr y2
    ·rw[q1]at m
     rw[Kh q2]
     cases R:valueAt mB (Sum.inr nm)with
     |some u2=>rw[R]at m;exact m.elim
     |none=>exact .inl ⟨rfl,rfl⟩
   ·simp only[Pt.Bf,Bool.and_eq_true,beq_iff_eq,Pt.Fe]
    rw[l1,l2]
    refine and_congr_right fun ll=>⟨fun h j hj=>?_,fun h j k x T hx=>?_⟩
    ·obtain⟨k,T⟩:∃k,Q[j]?=some k:=⟨_,ACd hj⟩
     obtain⟨x,hx⟩:∃x,C[j]?=some x:=⟨_,ACd (by lia)⟩
     obtain⟨y,G,h2⟩:=h j k x T hx
     rw[NP T hx,Gb G]
     exact h2
    ·have:=h j (ACe T).1
     rw[NP T hx]at this
     cases hl:Pt.look ls r k with
     |none=>rw[Kh hl]at this;cases this
     |some y=>rw[Gb hl]at this;exact⟨y,rfl,this⟩
theorem Wl (I:Inv X pins σ H s):∀(n:Nat) (p:Pt),p.deep<=n->∀t,ja p t->∀{x y:V},Val H x p->Val H y t->∀{A:Around} {u v:Value},A.units+p.deep<cLine->RelV x u->RelV y v->Wg X.prog X.w A s u v (Pt.Bf p t)
 |0,p,h=>by have:=Pt.De p;lia
 |n+1,p,h=>fun t c x y a g A u v l f i=>by
  by_cases k:∃b,p=.bl b
  ·obtain⟨b,rfl⟩:=k
   rcases c with⟨d,_⟩|c
   ·simp[Pt.doc]at d
   ·cases t with
    |bl m=>
     have e:b=m:=by simpa[Pt.Bf]using c
     subst e
     cases a
     cases g
     cases(show u=Value.bool b from f)
     cases(show v=Value.bool b from i)
     rw[c]
     exact .of (SeqAt.EqAt.same _)
    |_=>simp[Pt.Bf]at c
  ·refine Wg.by (fun e=>?_) (Yt a f) (tj I (fun o r=>Wl I n o (by lia)) (fun b z=>k ⟨b,z⟩) c a g l f i)
   rcases c with⟨d,q⟩|c
   ·subst e
    have j:x=y:=f.inj i
    subst j
    have:=Val.one p a g d q
    subst this
    exact Pt.EY p (Pt.Wk p d)
   ·exact c
end
inductive RQ {K:ACh} [BA K] (x y:V) (H:Hp) (Q:VK):Prop
 |mk (p t:Pt) (a:Val H x p) (e:Val H y t) (f:∀b,p≠.bl b) (c:ja p t) (d:p.deep<=60) (q:Q (.bl (Pt.Bf p t)) H):RQ x y H Q
section
variable{X:Cx}
theorem Ki (j:X.A.units+64<cLine):Dy X (compareOp .Eq) (@RQ X.K ⟨trivial⟩):=by
 haveI:BA X.K:=⟨trivial⟩
 intro pins s k H x y v u Q I a b h
 obtain⟨p,t,e,f,g,c,d,q⟩:=h
 exact tj I (fun i _=>Wl I _ i (Nat.le_refl _)) g c e f (A:=X.A) (by lia) a b _ _ ⟨.bl _,H,I,rfl,q⟩
end
open PySem.AutoSeq1 (wpAny_loadPart')
open PySem.MeetsSeq3
section
variable{prog:Program} {w:World} {A:Around} {s:Shared}
theorem UR {l b:Addr} {items a:Array Value} (hl:s.heap.IsTuple l items) (G:s.heap.IsTuple b a) (hsz:items.size=a.size) (H:A.units<cLine)
  (I:∀j (v:j<items.size) (z:j<a.size),jX prog w A.in1 s items[j] a[j]) {E:Value->Shared->Prop} {Q:Value->Shared->Prop} (h:Q (.bool false) s):wpAny (model prog w) A (richCompare .NotEq (.ref l) (.ref b)) Q E s:=by
 obtain⟨⟨J,R,data,S⟩,r,B,n,C⟩:=id hl
 obtain⟨⟨D,K,data2,L⟩,f,k,T,m⟩:=id G
 simp only at B C k m
 subst B C k m
 refine wpAny_richCompare_same_room (op:=.NotEq) ⟨_,r,rfl⟩ ⟨_,f,rfl⟩ F.slot_tuple_ne (wpAny_call_entry F.slot_tuple_ne ⟨_,r,rfl⟩ F.entry_tuple_ne ?_ (F.args_tuple_ne_2 _ _)) H
 obtain⟨M,g,d,N,os⟩:=s
 have U:=AutoSeq1.sub_tuple_tuple
 wp_walk using wpAny_loadPart' r,wpAny_loadPart' f,wpAny_forIn_list _ (fun rest b t=>b.1=none/\t=⟨M,g,d,N,os⟩/\∃i,rest=(items.toList.zip a.toList).drop i) _
 case turn=>
  rintro⟨y,x⟩ rest b t ⟨c,rfl,i,o⟩
  have p:i<(items.toList.zip a.toList).length:=by
   rcases Nat.lt_or_ge i (items.toList.zip a.toList).length with u|u
   ·exact u
   ·rw[List.drop_of_length_le u]at o;cases o
  have v:i<items.size:=by simp at p;lia
  have z:i<a.size:=by lia
  rw[List.drop_eq_getElem_cons p]at o
  injection o with q e
  have O:y=items[i]:=by have:=congrArg Prod.fst q;simpa using this
  have P:x=a[i]:=by have:=congrArg Prod.snd q;simpa using this
  subst O P
  refine wpAny_bind (I i v z _ _ ?_)
  wp_walk
  exact⟨rfl,rfl,i+1,e⟩
 case fin=>
  rintro⟨V,W⟩ t ⟨c,rfl,i,o⟩
  simp only at c
  subst c
  wp_walk
  exact⟨_,rfl,(fun x=>nomatch x),by simpa[Builtin.Tuple.tupleCompareSizes,hsz]using h⟩
 case h=>
  exact⟨rfl,rfl,0,rfl⟩
theorem MF {l b:Addr} {items a:Array Value} (hl:s.heap.IsTuple l items) (H:s.heap.IsTuple b a) (I:A.units<cLine) (B:(items.size≠0/\a.size=0)∨∃(t:0<items.size) (j:0<a.size),Wg prog w A.in1 s items[0] a[0] false):cO prog w A s (.ref l) (.ref b) false:=fun E Q h=>by
 obtain⟨⟨J,S,data,T⟩,u,m,n,C⟩:=id hl
 obtain⟨⟨D,K,data2,L⟩,o,p,U,q⟩:=id H
 simp only at m C p q
 subst m C p q
 refine wpAny_richCompare_same_room (op:=.Eq) ⟨_,u,rfl⟩ ⟨_,o,rfl⟩ F.slot_tuple_eq (wpAny_call_entry F.slot_tuple_eq ⟨_,u,rfl⟩ F.entry_tuple_eq ?_ (F.args_tuple_eq_2 _ _)) I
 obtain⟨M,g,d,N,os⟩:=s
 have V:=AutoSeq1.sub_tuple_tuple
 wp_walk using wpAny_loadPart' u,wpAny_loadPart' o,wpAny_forIn_list _ (fun rest b v=>b.1=none/\v=⟨M,g,d,N,os⟩/\rest=(items.toList.zip a.toList)) _
 case turn=>
  rintro⟨y,x⟩ rest b v ⟨f,rfl,k⟩
  rcases B with⟨_,j⟩|⟨t,j,G⟩
  ·have:a.toList=[]:=List.eq_nil_of_length_eq_zero (by rw[Array.length_toList];exact j)
   rw[this,List.zip_nil_right]at k
   cases k
  ·have e:items.toList.zip a.toList=(items[0],a[0])::(items.toList.zip a.toList).drop 1:=by
    have c:0<(items.toList.zip a.toList).length:=by simp;lia
    have:=List.drop_eq_getElem_cons (i:=0) (l:=items.toList.zip a.toList) c
    rw[List.drop_zero]at this
    rw[this]
    simp
   rw[e]at k
   injection k with r z
   have O:y=items[0]:=congrArg Prod.fst r
   have P:x=a[0]:=congrArg Prod.snd r
   subst O P
   refine wpAny_bind (G _ _ ?_)
   wp_walk
   exact⟨_,rfl,(fun x=>nomatch x),h⟩
 case fin=>
  rintro⟨W,X⟩ v ⟨f,rfl,k⟩
  simp only at f
  subst f
  wp_walk
  rcases B with⟨t,j⟩|⟨t,j,G⟩
  ·refine⟨_,rfl,(fun x=>nomatch x),?_⟩
   have R:(items.size==0)=false:=by simpa using t
   simp only[Builtin.Tuple.tupleCompareSizes,j,R]
   exact h
  ·have c:0<(items.toList.zip a.toList).length:=by simp;lia
   rw[<-k]at c
   simp at c
 case h=>
  exact⟨rfl,rfl,rfl⟩
end
inductive Wm {K:ACh} [BA K] (x y:V) (H:Hp) (Q:VK):Prop
 |mk (ps ts:List Pt) (a:Val H x (.tup ps)) (b:Val H y (.tup ts)) (c:Pt.Bf (.tup ps) (.tup ts)=true) (d:(Pt.tup ps).deep<=60) (q:Q (.bl false) H):Wm x y H Q
section
variable{X:Cx}
theorem RS (Z:X.A.units+64<cLine):Dy X (compareOp .NotEq) (@Wm X.K ⟨trivial⟩):=by
 haveI:BA X.K:=⟨trivial⟩
 intro pins s σ H x y v u Q I L M h
 obtain⟨g,i,N,O,c,d,q⟩:=h
 simp only[Pt.deep]at d
 cases N with
 |@tup a P _ R w=>
  cases(show v=Value.ref a from L)
  cases O with
  |@tup b vs _ S B=>
   cases(show u=Value.ref b from M)
   simp only[Pt.Bf]at c
   have l:g.length=i.length:=by
    rcases Nat.lt_trichotomy g.length i.length with z|z|z
    ·rw[B_ (by lia)]at c;cases c
    ·exact z
    ·rw[B_ (by lia)]at c;cases c
   obtain⟨k,C,T,_⟩:=I.tuple R
   obtain⟨f,D,U,_⟩:=I.tuple S
   have E:k.toArray.size=g.length:=by rw[List.size_toArray,<-C.length,w.length]
   have V:f.toArray.size=i.length:=by rw[List.size_toArray,<-D.length,B.length]
   refine UR (A:=X.A) T U (by rw[E,V,l]) (by lia) (fun j F W=>?_) ⟨.bl false,H,I,rfl,q⟩
   obtain⟨v1,m,g1,G,n,o⟩:=w.at C F
   obtain⟨v2,p,g3,Y,r,t⟩:=B.at D W
   have e:pairE g i j=Pt.Bf m p:=by simp[pairE,G,Y]
   have J:Pt.Bf m p=true:=by rw[<-e];exact(GA l).mp c j (by rw[<-E];exact F)
   have dl:=Pt.Ao (ACg G)
   have:=Wl I _ m (Nat.le_refl _) p (.inr J) n r (A:=X.A.in1) (by show X.A.units+1+_<cLine;lia) o t
   rw[J]at this
   exact this
inductive US (K:ACh) (x y:V) (H:Hp) (Q:VK):Prop
 |nil (a b:Addr) (c:Str) (rest:List V) (e:x=.ref a) (f:y=.ref b) (g:Bj K H a (.str c::rest)) (h:Bj K H b []) (q:Q (.bl false) H):US K x y H Q
 |other (a b:Addr) (c d:Str) (rest:List V) (e:x=.ref a) (f:y=.ref b) (g:Bj K H a (.str c::rest)) (h:Bj K H b [.str d]) (ne:c≠d) (q:Q (.bl false) H):US K x y H Q
 |same (a b:Addr) (c:Str) (e:x=.ref a) (f:y=.ref b) (g:Bj K H a [.str c]) (h:Bj K H b [.str c]) (q:Q (.bl true) H):US K x y H Q
theorem Wq (L:X.A.units+64<cLine):Dy X (compareOp .Eq) (US X.K):=by
 intro pins s M H x y v u Q I z B h
 rcases h with⟨a,b,i,rest,rfl,rfl,l,m,q⟩|⟨a,b,i,n,rest,rfl,rfl,l,m,ne,q⟩|⟨a,b,i,rfl,rfl,l,m,q⟩
 ·cases z
  cases B
  obtain⟨o,f,p,_⟩:=I.tuple l
  obtain⟨g,d,r,_⟩:=I.tuple m
  have l1:=f.length
  have l2:=d.length
  exact MF (A:=X.A) (prog:=X.prog) (w:=X.w) p r (by lia) (.inl ⟨by rw[List.size_toArray,<-l1];simp,by rw[List.size_toArray,<-l2];rfl⟩) _ _ ⟨.bl false,H,I,rfl,q⟩
 ·cases z
  cases B
  obtain⟨o,f,p,_⟩:=I.tuple l
  obtain⟨g,d,r,_⟩:=I.tuple m
  cases f with
  |@cons _ G _ C k f=>
   cases d with
   |@cons _ J _ D t d=>
    cases d
    obtain⟨E,rfl⟩:=k
    obtain⟨F,rfl⟩:=t
    have c:=SeqAt.EqAt.str_str (A:=X.A.in1) (s:=s) i E n F
    rw[show(i==n)=false by simpa using ne]at c
    exact MF (A:=X.A) (prog:=X.prog) (w:=X.w) p r (by lia) (.inr ⟨by simp,by simp,.of c⟩) _ _ ⟨.bl false,H,I,rfl,q⟩
 ·cases z
  cases B
  obtain⟨o,f,p,_⟩:=I.tuple l
  obtain⟨g,d,r,_⟩:=I.tuple m
  cases f with
  |@cons _ G _ C k f=>
   cases f
   cases d with
   |@cons _ J _ D t d=>
    cases d
    obtain⟨E,rfl⟩:=k
    obtain⟨F,rfl⟩:=t
    have c:=SeqAt.EqAt.str_str (A:=X.A.in1) (s:=s) i E i F
    rw[beq_self_eq_true]at c
    refine Ly (A:=X.A) (prog:=X.prog) (w:=X.w) p r (by simp) (by lia) (fun j k t=>?_) _ _ ⟨.bl true,H,I,rfl,q⟩
    have e:j=0:=by simp at k;exact k
    subst e
    exact .of c
end
namespace Ak
mutual
theorem Good.one:∀{a b g:Ak},Good a b->Good a g->b=g
 |_,_,_,.any,h=>by cases h;rfl
 |_,_,_,.Ac d,h=>by cases h;rfl
 |_,_,_,.row h,h'=>by
  cases h' with
  |row h'=>rw[h.one h']
 |_,_,_,.tab i j e h,h'=>by
  cases h' with
  |tab c f k h'=>
   have es:=CN j f (i.trans c.symm)
   subst es
   have l:=some_inj (e.symm.trans k)
   subst l
   rw[h.one h']
theorem B'.one:∀{as bs a:List Ak},B' as bs->B' as a->bs=a
 |_,_,_,.nil,h=>by cases h;rfl
 |_,_,_,.cons h r,h'=>by
  cases h' with
  |cons h' b=>rw[h.one h',r.one b]
end
theorem NQ {cs:List Ak} (m:Bool) (h:B' cs cs):Good (BP cs m) (BP cs m):=by
 have a:Good (.row cs m) (BP cs m):=.row h
 unfold BP at a⊢
 split
 ·rename_i b
  subst b
  simpa using a
 ·rename_i b
  have:m=false:=by simpa using b
  subst this
  split
  ·exact .Ac _
  ·rename_i e
   rw[if_neg (by simp),e]at a
   exact a
theorem NR {ss:List Str} {cs:List Ak} (ls:List Str) (m:Bool) (l:ss.length=cs.length) (nd:ss.Nodup) (c:sortedS ss=true) (h:B' cs cs):Good (BH ss cs ls m) (BH ss cs ls m):=by
 have a:∀b m,Good (.tab ss cs b m) (BH ss cs b m):=fun b m=>.tab (.refl _) c (Fw l nd) h
 unfold BH
 split
 ·rename_i d
  have:=a ls true
  unfold BH at this
  rwa [if_pos rfl]at this
 ·split
  ·exact .Ac _
  ·rename_i e
   have:=a [] false
   unfold BH at this
   rwa [if_neg (by simp),e]at this
mutual
theorem Good.good:∀{a b:Ak},Good a b->a.Bu->Good b b
 |_,_,.any,_=>.any
 |_,_,.Ac d,_=>.Ac d
 |_,_,.row h,o=>by
  simp only[Bu]at o
  exact NQ _ (h.good (Au o))
 |_,_,.tab (ss:=ss) (as:=as) c f e h,o=>by
  simp only[Bu]at o
  have g:=Bx o.1 o.2.1 c e
  have i:as.length=ss.length:=by have:=congrArg List.length e;simpa using this.symm
  exact NR _ _ (by rw[<-h.length,i]) (c.nodup_iff.mpr o.2.1) f (h.good fun x j=>Au o.2.2.2.2.2.2 x (g.mem_iff.mp j))
theorem B'.good:∀{as bs:List Ak},B' as bs->(∀a∈as,a.Bu)->B' bs bs
 |_,_,.nil,_=>.nil
 |_,_,.cons h r,o=>.cons (h.good (o _ List.mem_cons_self)) (r.good fun x b=>o x (List.mem_cons_of_mem _ b))
end
theorem Sh {c l:Nat} {m:Bool}:cnt c l m=true↔c=l∨(m=true/\l<c):=by simp[cnt]
theorem MG:∀{xs:List Ak} {ys:List Pt},FW xs ys=true↔∀(j:Nat) x y,xs[j]?=some x->ys[j]?=some y->lets x y=true
 |[],_=>by simp[FW]
 |_::_,[]=>by simp[FW]
 |x::xs,y::ys=>by
  simp only[FW,Bool.and_eq_true,MG (xs:=xs) (ys:=ys)]
  constructor
  ·intro⟨e,f⟩ j c d a b
   cases j with
   |zero=>simp at a b;subst a b;exact e
   |succ j=>exact f j c d (by simpa using a) (by simpa using b)
  ·exact fun h=>⟨h 0 x y rfl rfl,fun j c d a b=>h (j+1) c d (by simpa using a) (by simpa using b)⟩
theorem UT {ks ns:List Str} {xs:List Ak} {ys:List Pt} (l:ks.length=xs.length) (nd:ks.Nodup):KH ks xs ns ys=true↔∀k x,lk ks xs k=some x->∃y,lk ns ys k=some y/\lets x y=true:=by
 rw[GZ,JS _ l nd,List.all_eq_true]
 constructor
 ·intro h k x a
  have:=h k (Dg a).1
  rw[a]at this
  cases b:lk ns ys k with
  |none=>rw[b]at this;cases this
  |some y=>rw[b]at this;exact⟨y,rfl,this⟩
 ·intro h k a
  obtain⟨x,c⟩:=Gw l a
  obtain⟨y,d,e⟩:=h k x c
  rw[c,d]
  exact e
theorem Cs {ks ls ns:List Str} {xs:List Ak} {ys:List Pt} {m:Bool} (l:ks.length=xs.length) (nd:ks.Nodup):lets (.tab ks xs ls m) (.BM ns ys)=true↔(∀k∈ks,k∈ns)/\(∀k∈ls,k∉ns)/\(ns.length=ks.length∨(m=true/\ks.length<ns.length))/\∀k x,lk ks xs k=some x->∃y,lk ns ys k=some y/\lets x y=true:=by
 simp only[lets,Bool.and_eq_true,UT l nd,Sh,List.all_eq_true,decide_eq_true_eq,Bool.not_eq_true',List.any_eq_false]
 constructor
 ·intro⟨⟨⟨a,b⟩,c⟩,d⟩;exact⟨a,b,c,d⟩
 ·intro⟨a,b,c,d⟩;exact⟨⟨⟨a,b⟩,c⟩,d⟩
theorem PU {ks ns:List Str} {xs ys:List Pt} (l:ks.length=xs.length) (nd:ks.Nodup):Pt.Bf (.BM ks xs) (.BM ns ys)=true↔ks.length=ns.length/\∀k x,lk ks xs k=some x->∃y,lk ns ys k=some y/\Pt.Bf x y=true:=by
 simp only[Pt.Bf,Bool.and_eq_true,beq_iff_eq]
 rw[Lz,JS _ l nd,List.all_eq_true]
 refine and_congr_right fun _=>⟨fun h k x a=>?_,fun h k a=>?_⟩
 ·have:=h k (Dg a).1
  rw[a]at this
  cases b:lk ns ys k with
  |none=>rw[b]at this;cases this
  |some y=>rw[b]at this;exact⟨y,rfl,this⟩
 ·obtain⟨x,c⟩:=Gw l a
  obtain⟨y,d,e⟩:=h k x c
  rw[c,d]
  exact e
theorem Ew {xs:List Ak} {ys:List Pt} {m:Bool}:lets (.row xs m) (.lst ys)=true↔(ys.length=xs.length∨(m=true/\xs.length<ys.length))/\∀(j:Nat) x y,xs[j]?=some x->ys[j]?=some y->lets x y=true:=by
 simp only[lets,Bool.and_eq_true,MG,Sh]
theorem Ff:∀{xs ys:List Pt},Pt.CO xs ys=true↔xs.length=ys.length/\∀(j:Nat) x y,xs[j]?=some x->ys[j]?=some y->Pt.Bf x y=true
 |[],[]=>by simp[Pt.CO]
 |[],_::_=>by simp[Pt.CO]
 |_::_,[]=>by simp[Pt.CO]
 |x::xs,y::ys=>by
  simp only[Pt.CO,Bool.and_eq_true,Ff (xs:=xs) (ys:=ys),List.length_cons]
  constructor
  ·intro⟨e,g,f⟩
   refine⟨by lia,fun j c d a b=>?_⟩
   cases j with
   |zero=>simp at a b;subst a b;exact e
   |succ j=>exact f j c d (by simpa using a) (by simpa using b)
  ·exact fun⟨i,h⟩=>⟨h 0 x y rfl rfl,by lia,fun j c d a b=>h (j+1) c d (by simpa using a) (by simpa using b)⟩
theorem NS (cs:List Ak) (m:Bool) (t:Pt):lets (BP cs m) t=lets (.row cs m) t:=by
 unfold BP
 split
 ·rename_i b;subst b;rfl
 ·rename_i b
  have:m=false:=by simpa using b
  subst this
  split
  ·rename_i k e
   rw[Bn e]
   rw[Bool.eq_iff_iff]
   cases t with
   |lst l=>
    rw[Ew]
    simp only[lets,Pt.Bf,Ff]
    rw[List.length_map]
    constructor
    ·intro⟨c,f⟩
     refine⟨.inl c.symm,fun j x y a g=>?_⟩
     rw[List.getElem?_map]at a
     cases i:k[j]? with
     |none=>rw[i]at a;cases a
     |some d=>rw[i]at a;cases a;exact f j d y i g
    ·intro⟨c,f⟩
     refine⟨?_,fun j x y a g=>?_⟩
     ·rcases c with h|⟨h,_⟩
      ·exact h.symm
      ·cases h
     ·exact f j (.Ac x) y (by rw[List.getElem?_map,a];rfl) g
   |_=>simp[lets,Pt.Bf]
  ·rfl
theorem NT {ss:List Str} {cs:List Ak} (ls:List Str) (m:Bool) (l:ss.length=cs.length) (nd:ss.Nodup) (p:∀k∈ls,k∉ss) {t:Pt} (d:t.doc):lets (BH ss cs ls m) t=lets (.tab ss cs ls m) t:=by
 unfold BH
 split
 ·rename_i j;subst j;rfl
 ·rename_i j
  have:m=false:=by simpa using j
  subst this
  have free:∀{f:List Str},f.Nodup->(∀k∈ss,k∈f)->f.length=ss.length->∀k∈ls,k∉f:=fun q b g k a z=>p k a ((KG nd q g.symm b).mem_iff.mpr z)
  split
  ·rename_i r e
   have n:=Bn e
   subst n
   rw[List.length_map]at l
   rw[Bool.eq_iff_iff]
   cases t with
   |BM f s=>
    simp only[Pt.doc]at d
    rw[Cs (by rw[List.length_map];exact l) nd]
    simp only[lets]
    rw[PU l nd]
    constructor
    ·intro⟨b,g⟩
     have c:∀k∈ss,k∈f:=fun k a=>by
      obtain⟨x,u⟩:=Gw l a
      obtain⟨y,v,_⟩:=g k x u
      exact(Dg v).1
     refine⟨c,free d.2.1 c b.symm,.inl b.symm,fun k x a=>?_⟩
     rw[FX]at a
     cases o:lk ss r k with
     |none=>rw[o]at a;cases a
     |some w=>rw[o]at a;cases a;exact g k w o
    ·intro⟨b,g,c,i⟩
     refine⟨?_,fun k x a=>?_⟩
     ·rcases c with h|⟨h,_⟩
      ·exact h.symm
      ·cases h
     ·exact i k (.Ac x) (by rw[FX,a];rfl)
   |_=>simp[lets,Pt.Bf]
  ·rw[Bool.eq_iff_iff]
   cases t with
   |BM f s=>
    simp only[Pt.doc]at d
    rw[Cs l nd,Cs l nd]
    constructor
    ·intro⟨b,_,c,i⟩
     have A:f.length=ss.length:=by
      rcases c with h|⟨h,_⟩
      ·exact h
      ·cases h
     exact⟨b,free d.2.1 b A,c,i⟩
    ·intro⟨b,_,c,i⟩
     exact⟨b,(fun k a=>by simp at a),c,i⟩
   |_=>simp[lets]
mutual
theorem Good.lets:∀{a b:Ak},Good a b->a.Bu->∀{t:Pt},t.doc->Ak.lets b t=Ak.lets a t
 |_,_,.any,_,_,_=>rfl
 |_,_,.Ac d,_,_,_=>rfl
 |_,_,.row (xs:=xs) (cs:=cs) (m:=m) h,o,t,d=>by
  simp only[Bu]at o
  rw[NS,Bool.eq_iff_iff]
  cases t with
  |lst H=>
   simp only[Pt.doc]at d
   rw[Ew,Ew,<-h.length]
   refine and_congr_right fun _=>⟨fun g j x y i q=>?_,fun g j x y i q=>?_⟩
   ·obtain⟨c,l⟩:∃c,cs[j]?=some c:=⟨_,ACd (by rw[<-h.length];exact(ACe i).1)⟩
    rw[<-h.Kj (Au o) i l (Pt.Ap d y (ACg q))]
    exact g j c y l q
   ·obtain⟨c,l⟩:∃c,xs[j]?=some c:=⟨_,ACd (by rw[h.length];exact(ACe i).1)⟩
    rw[h.Kj (Au o) l i (Pt.Ap d y (ACg q))]
    exact g j c y l q
  |_=>simp[Ak.lets]
 |_,_,.tab (ks:=ks) (ss:=ss) (xs:=xs) (as:=as) (cs:=cs) (ls:=ls) (m:=m) n N e h,o,t,d=>by
  simp only[Bu]at o
  obtain⟨v,w,O,P,Q,I,J⟩:=o
  have K:=Bx v w n e
  have L:as.length=ss.length:=by have:=congrArg List.length e;simpa using this.symm
  have A:ss.length=cs.length:=by rw[<-h.length,L]
  have p:=n.nodup_iff.mpr w
  have F:∀x∈as,x.Bu:=fun x i=>Au J x (K.mem_iff.mp i)
  rw[NT ls m A p (fun k f z=>I k f (n.mem_iff.mp z)) d,Bool.eq_iff_iff]
  cases t with
  |BM R H=>
   simp only[Pt.doc]at d
   rw[Cs A p,Cs v w,n.length_eq]
   have at_:∀{k:Str} {x:Ak},lk ks xs k=some x->∃(j:Nat) (c:Ak),ss[j]?=some k/\as[j]?=some x/\cs[j]?=some c/\lk ss cs k=some c:=fun{k x} f=>by
    obtain⟨j,s⟩:=List.getElem?_of_mem (n.mem_iff.mpr (Dg f).1)
    have M:=(ACe s).1
    have B:as[j]?=some x:=by
     have:=congrArg (fun z=>z[j]?) e
     simp only[List.getElem?_map,s]at this
     cases G:as[j]? with
     |none=>rw[G]at this;cases this
     |some a=>rw[G]at this;simp only[Option.map_some]at this;have:=ACf this;rw[f]at this;exact this.symm
    obtain⟨c,l⟩:∃c,cs[j]?=some c:=⟨_,ACd (by lia)⟩
    refine⟨j,c,s,B,l,?_⟩
    have:=congrArg (fun z=>z[j]?) (Fw A p)
    simp only[List.getElem?_map,s,l]at this
    exact ACf this
   refine and_congr ⟨fun g k f=>g k (n.mem_iff.mpr f),fun g k f=>g k (n.mem_iff.mp f)⟩ (and_congr_right fun _=>and_congr_right fun _=>⟨fun g k x f=>?_,fun g k c f=>?_⟩)
   ·obtain⟨j,c,B,C,D,u⟩:=at_ f
    obtain⟨y,r,E⟩:=g k c u
    exact⟨y,r,by rw[<-h.Kj F C D (Pt.Ap d.2.2.2.2 y (Dg r).2)];exact E⟩
   ·obtain⟨x,i⟩:=Gw v (n.mem_iff.mp (Dg f).1)
    obtain⟨j,S,B,C,D,u⟩:=at_ i
    rw[f]at u
    cases u
    obtain⟨y,r,E⟩:=g k x i
    exact⟨y,r,by rw[h.Kj F C D (Pt.Ap d.2.2.2.2 y (Dg r).2)];exact E⟩
  |_=>simp[Ak.lets]
theorem B'.Kj:∀{as bs:List Ak},B' as bs->(∀a∈as,a.Bu)->∀{j:Nat} {a b:Ak},as[j]?=some a->bs[j]?=some b->∀{t:Pt},t.doc->Ak.lets b t=Ak.lets a t
 |_,_,.nil,_,j,a,b,h,_,_,_=>by simp at h
 |_,_,.cons h r,o,0,a,b,c,e,t,d=>by
  simp at c e
  subst c e
  exact h.lets (o _ List.mem_cons_self) d
 |_,_,.cons h r,o,j+1,a,b,c,e,t,d=>r.Kj (fun x f=>o x (List.mem_cons_of_mem _ f)) (by simpa using c) (by simpa using e) d
end
end Ak
namespace Ak
mutual
inductive GP:Ak->Ak->Prop
 |any:GP .any .any
 |Ac (d:Pt):GP (.Ac d) (.Ac d)
 |Yu {ds:List Pt} {cs:List Ak} (h:CA (ds.map Ac) cs):GP (.Ac (.lst ds)) (.row cs false)
 |Yv {ks ns ls:List Str} {ds es:List Pt} {cs:List Ak} (a:ns.Perm ks) (e:ns.map (lk ks ds)=es.map some) (h:CA (es.map Ac) cs) (f:ns.length<60) (b:ls.length<=100) (c:∀l∈ls,l∉ns):GP (.Ac (.BM ks ds)) (.tab ns cs ls false)
 |row {xs cs:List Ak} {m:Bool} (h:CA xs cs):GP (.row xs m) (.row cs m)
 |tab {ks ns ls zs:List Str} {xs as cs:List Ak} {m:Bool} (a:ns.Perm ks) (e:ns.map (lk ks xs)=as.map some) (h:CA as cs) (b:zs.length<=100) (c:∀l∈zs,l∉ns) (hl:m=true->zs=ls):GP (.tab ks xs ls m) (.tab ns cs zs m)
inductive CA:List Ak->List Ak->Prop
 |nil:CA [] []
 |cons {x y:Ak} {xs ys:List Ak} (h:GP x y) (r:CA xs ys):CA (x::xs) (y::ys)
end
theorem CA.length:∀{xs ys:List Ak},CA xs ys->xs.length=ys.length
 |_,_,.nil=>rfl
 |_,_,.cons _ r=>by rw[List.length_cons,List.length_cons,r.length]
theorem CA.snoc:∀{xs ys:List Ak},CA xs ys->∀{x y:Ak},GP x y->CA (xs++[x]) (ys++[y])
 |_,_,.nil,_,_,h=>.cons h .nil
 |_,_,.cons g r,_,_,h=>.cons g (r.snoc h)
mutual
theorem GP.keeps:∀{a c:Ak},GP a c->a.Bu->c.Bu/\c.wt=a.wt/\c.dp=a.dp
 |_,_,.any,o=>⟨o,rfl,rfl⟩
 |_,_,.Ac d,o=>⟨o,rfl,rfl⟩
 |_,_,.Yu (ds:=ds) h,o=>by
  simp only[Bu,Pt.doc]at o
  obtain⟨i,b,f⟩:=h.keeps (fun x l=>by obtain⟨d,n,rfl⟩:=List.mem_map.mp l;exact Pt.Ap o d n)
  rw[Fb]at b
  rw[Fc]at f
  exact⟨i,by simp only[wt,Pt.size,b],by simp only[dp,Pt.deep,f]⟩
 |_,_,.Yv (ks:=ks) (ns:=ns) (ds:=ds) (es:=es) (cs:=cs) g e h y p q,o=>by
  simp only[Bu,Pt.doc]at o
  obtain⟨r,m,s,u,v⟩:=o
  have j:=Bx r m g e
  obtain⟨i,b,f⟩:=h.keeps (fun x l=>by obtain⟨d,n,rfl⟩:=List.mem_map.mp l;exact Pt.Ap v d (j.mem_iff.mp n))
  have z:ns.length=cs.length:=by
   have:=h.length
   rw[List.length_map]at this
   have A:=congrArg List.length e
   simp at A
   lia
  have w:(es.map Ac).Perm (ds.map Ac):=j.map _
  refine⟨?_,?_,?_⟩
  ·exact⟨z,g.nodup_iff.mpr m,fun k t=>s k (g.mem_iff.mp t),y,p,q,i⟩
  ·simp only[wt,Pt.size,b,KU w,Fb]
  ·simp only[dp,Pt.deep,f,KW w,Fc]
 |_,_,.row h,o=>by
  simp only[Bu]at o
  obtain⟨i,b,f⟩:=h.keeps (Au o)
  exact⟨i,by simp only[wt,b],by simp only[dp,f]⟩
 |_,_,.tab (ns:=ns) (as:=as) (cs:=cs) g e h p q D,o=>by
  simp only[Bu]at o
  obtain⟨r,m,s,u,v,E,B⟩:=o
  have j:=Bx r m g e
  obtain⟨i,b,f⟩:=h.keeps (fun x l=>Au B x (j.mem_iff.mp l))
  have C:as.length=ns.length:=by have:=congrArg List.length e;simpa using this.symm
  exact⟨⟨by rw[<-h.length,C],g.nodup_iff.mpr m,fun k t=>s k (g.mem_iff.mp t),by rw[g.length_eq];exact u,p,q,i⟩,by simp only[wt,b,KU j],by simp only[dp,f,KW j]⟩
theorem CA.keeps:∀{as cs:List Ak},CA as cs->(∀a∈as,a.Bu)->Es cs/\Hv cs=Hv as/\Ii cs=Ii as
 |_,_,.nil,_=>⟨trivial,rfl,rfl⟩
 |_,_,.cons h r,o=>by
  obtain⟨b,c,d⟩:=h.keeps (o _ List.mem_cons_self)
  obtain⟨e,f,g⟩:=r.keeps fun x i=>o x (List.mem_cons_of_mem _ i)
  exact⟨⟨b,e⟩,by simp only[Hv,c,f],by simp only[Ii,d,g]⟩
end
theorem He {g:Ak} {d:Pt} (h:Pt.Bf g.pt (Ak.Ac d).pt=true):∃d',g=.Ac d'/\Pt.Bf d' d=true:=by
 cases g with
 |Ac d'=>simp only[pt,Pt.Bf,Pt.CO,Bool.and_eq_true]at h;exact⟨d',rfl,h.2.1⟩
 |any=>simp only[pt,Pt.Bf]at h;rw[B_ (by simp)]at h;cases h
 |row _ _=>simp only[pt,Pt.Bf]at h;rw[B_ (by simp)]at h;cases h
 |tab _ _ _ _=>simp only[pt,Pt.Bf]at h;rw[B_ (by simp)]at h;cases h
theorem Yw {g:Ak} {d:Pt} (h:Pt.Bf (Ak.Ac d).pt g.pt=true):∃d',g=.Ac d'/\Pt.Bf d d'=true:=by
 cases g with
 |Ac d'=>simp only[pt,Pt.Bf,Pt.CO,Bool.and_eq_true]at h;exact⟨d',rfl,h.2.1⟩
 |any=>simp only[pt,Pt.Bf]at h;rw[B_ (by simp)]at h;cases h
 |row _ _=>simp only[pt,Pt.Bf]at h;rw[B_ (by simp)]at h;cases h
 |tab _ _ _ _=>simp only[pt,Pt.Bf]at h;rw[B_ (by simp)]at h;cases h
theorem Hg {d' d:Pt} (h:Pt.Bf d' d=true):Pt.Bf (Ak.Ac d').pt (Ak.Ac d).pt=true:=by
 simp only[pt,Pt.Bf,Pt.CO,Bool.and_eq_true]
 exact⟨by simp,h,trivial⟩
def Pw (a gs:List Ak):Prop:=a.length=gs.length/\∀(j:Nat) b g,a[j]?=some b->gs[j]?=some g->Pt.Bf b.pt g.pt=true
theorem Pw.tail {x y:Ak} {xs ys:List Ak} (h:Pw (x::xs) (y::ys)):Pw xs ys:=⟨by simpa using h.1,fun j a g b c=>h.2 (j+1) a g (by simpa using b) (by simpa using c)⟩
theorem Pw.D' {a gs:List Ak} (h:Pw a gs):Pt.CO (D' a) (D' gs)=true:=by
 rw[Ff,BG,BG,List.length_map,List.length_map]
 refine⟨h.1,fun j x y b c=>?_⟩
 rw[List.getElem?_map]at b c
 cases d:a[j]? with
 |none=>rw[d]at b;cases b
 |some f=>
  cases e:gs[j]? with
  |none=>rw[e]at c;cases c
  |some g=>
   rw[d]at b
   rw[e]at c
   cases b
   cases c
   exact h.2 j f g d e
theorem Pw.CI:∀{b gs:List Ak},Pw b gs->(Ak.CI b=none/\Ak.CI gs=none)∨∃a ds,Ak.CI b=some a/\Ak.CI gs=some ds/\Pt.CO a ds=true
 |[],[],_=>.inr ⟨[],[],rfl,rfl,by simp[Pt.CO]⟩
 |[],_::_,h=>by have:=h.1;simp at this
 |_::_,[],h=>by have:=h.1;simp at this
 |x::n,y::o,h=>by
  have c:=h.2 0 x y rfl rfl
  have j:=Pw.CI h.tail
  cases f:x with
  |Ac k=>
   subst f
   obtain⟨d,rfl,l⟩:=Yw c
   simp only[Ak.CI]
   rcases j with⟨g,i⟩|⟨a,ds,g,i,m⟩
   ·rw[g,i];exact .inl ⟨rfl,rfl⟩
   ·rw[g,i]
    exact .inr ⟨k::a,d::ds,rfl,rfl,by simp only[Pt.CO,Bool.and_eq_true];exact⟨l,m⟩⟩
  |any=>
   subst f
   refine .inl ⟨rfl,?_⟩
   cases y with
   |Ac d=>obtain⟨_,e,_⟩:=He c;cases e
   |_=>rfl
  |row _ _=>
   subst f
   refine .inl ⟨rfl,?_⟩
   cases y with
   |Ac d=>obtain⟨_,e,_⟩:=He c;cases e
   |_=>rfl
  |tab _ _ _ _=>
   subst f
   refine .inl ⟨rfl,?_⟩
   cases y with
   |Ac d=>obtain⟨_,e,_⟩:=He c;cases e
   |_=>rfl
theorem NU (x:Str):Pt.Bf (.str x) (.str x)=true:=by simp[Pt.Bf]
theorem Wr (b:Bool):Pt.Bf (.bl b) (.bl b)=true:=by simp[Pt.Bf]
theorem MH:∀ls:List Str,Pt.CO (ls.map Pt.str) (ls.map Pt.str)=true
 |[]=>by simp[Pt.CO]
 |x::r=>by simp only[List.map_cons,Pt.CO,Bool.and_eq_true];exact⟨NU x,MH r⟩
theorem Ws {a gs:List Ak} (m:Bool) (h:Pw a gs):Pt.Bf (Ak.row a m).pt (Ak.row gs m).pt=true:=by
 simp only[pt,Pt.Bf,Pt.CO,Bool.and_eq_true]
 exact⟨NU _,h.D',Wr m,trivial⟩
theorem Wu {ss ls:List Str} {a ds:List Pt} (l:ss.length=a.length) (nd:ss.Nodup) (hl:ss.length=ls.length) (h:∀(j:Nat) k d',ss[j]?=some k->a[j]?=some d'->∃d,lk ls ds k=some d/\Pt.Bf d' d=true):Pt.Bf (.BM ss a) (.BM ls ds)=true:=by
 simp only[Pt.Bf,Bool.and_eq_true,beq_iff_eq]
 exact⟨hl,Pt.Fe.mpr fun j k x b c=>h j k x b c⟩
theorem PV {ss:List Str} {a ds:List Pt} (nd:ss.Nodup) (l:ss.length=a.length) (h:Pt.CO a ds=true):Pt.Bf (.BM ss a) (.BM ss ds)=true:=by
 obtain⟨i,e⟩:=Ff.mp h
 refine Wu l nd rfl fun j k f g c=>?_
 obtain⟨d,b⟩:∃d,ds[j]?=some d:=⟨_,ACd (by have:=(ACe c).1;lia)⟩
 exact⟨d,Pt.NN nd g b,e j f d c b⟩
theorem Wv {ss:List Str} {a gs:List Ak} (ls:List Str) (m:Bool) (nd:ss.Nodup) (l:ss.length=a.length) (h:Pw a gs):Pt.Bf (Ak.tab ss a ls m).pt (Ak.tab ss gs ls m).pt=true:=by
 simp only[pt,Pt.CO,Pt.Bf.eq_5,Bool.and_eq_true]
 exact⟨NU _,PV nd (by rw[BG,List.length_map];exact l) h.D',by simp only[Pt.Bf];exact MH ls,Wr m,trivial⟩
theorem RT {a gs:List Ak} (m:Bool) (h:Pw a gs):Pt.Bf (BP a m).pt (BP gs m).pt=true:=by
 unfold BP
 split
 ·exact Ws true h
 ·rcases h.CI with⟨b,c⟩|⟨d,f,b,c,e⟩
  ·rw[b,c];exact Ws false h
  ·rw[b,c];exact Hg (by simp only[Pt.Bf];exact e)
theorem RU {ss:List Str} {a gs:List Ak} {b ls:List Str} (m:Bool) (nd:ss.Nodup) (l:ss.length=a.length) (hl:m=true->b=ls) (h:Pw a gs):Pt.Bf (BH ss a b m).pt (BH ss gs ls m).pt=true:=by
 unfold BH
 split
 ·rename_i e
  rw[hl e]
  exact Wv ls true nd l h
 ·rcases h.CI with⟨c,d⟩|⟨f,i,c,d,g⟩
  ·rw[c,d];exact Wv [] false nd l h
  ·rw[c,d]
   refine Hg (PV nd ?_ g)
   rw[Bn c,List.length_map]at l
   exact l
theorem C' {d:Type} {ks ns ss:List Str} {xs ys as bs:List d} (l:ns.length=ys.length) (m:ns.Nodup) (pn:ns.Perm ks) (e:ns.map (lk ks xs)=as.map some) (es:ss.map (lk ns ys)=bs.map some) {j:Nat} {k:Str} {b:d} (n:ss[j]?=some k) (o:bs[j]?=some b):∃(i:Nat) (a:d),ns[i]?=some k/\as[i]?=some a/\ys[i]?=some b/\lk ks xs k=some a:=by
 have g:lk ns ys k=some b:=by
  have:=congrArg (fun z=>z[j]?) es
  simp only[List.getElem?_map,n,o]at this
  exact ACf this
 obtain⟨i,c⟩:=List.getElem?_of_mem (Dg g).1
 have p:=(ACe c).1
 have q:ys[i]?=some b:=by
  have:=congrArg (fun z=>z[i]?) (Fw l m)
  simp only[List.getElem?_map,c]at this
  cases h:ys[i]? with
  |none=>rw[h]at this;cases this
  |some y=>rw[h]at this;have:=ACf this;rw[g]at this;exact this.symm
 have:=congrArg (fun z=>z[i]?) e
 simp only[List.getElem?_map,c]at this
 cases f:as[i]? with
 |none=>rw[f]at this;cases this
 |some a=>rw[f]at this;exact⟨i,a,c,f,q,ACf this⟩
theorem B'.at:∀{as bs:List Ak},B' as bs->∀{j:Nat} {a b:Ak},as[j]?=some a->bs[j]?=some b->Good a b
 |_,_,.nil,j,a,b,h,_=>by simp at h
 |_,_,.cons h r,0,a,b,c,d=>by simp at c d;subst c d;exact h
 |_,_,.cons h r,j+1,a,b,c,d=>r.at (by simpa using c) (by simpa using d)
theorem NV:∀{gs:List Ak},(∀(j:Nat) g,gs[j]?=some g->∃d,g=.Ac d)->∃ds,CI gs=some ds
 |[],_=>⟨[],rfl⟩
 |g::r,h=>by
  obtain⟨d,rfl⟩:=h 0 g rfl
  obtain⟨ds,e⟩:=NV (gs:=r) fun j g a=>h (j+1) g (by simpa using a)
  exact⟨d::ds,by simp only[CI,e];rfl⟩
mutual
theorem GP.eq:∀{a c:Ak},GP a c->a.Bu->c.Bu->∀{b V:Ak},Good a b->Good c V->Pt.Bf V.pt b.pt=true
 |_,_,.any,_,_,_,_,h,h'=>by cases h;cases h';exact Pt.EY _ (by simp[pt,Pt.Nl,Pt.Kf])
 |_,_,.Ac d,o,_,_,_,h,h'=>by
  cases h
  cases h'
  exact Hg (Pt.EY d (Pt.Wk d o))
 |_,_,.Yu (ds:=ds) (cs:=cs) h,o,n,_,_,.Ac _,h'=>by
  simp only[Bu,Pt.doc]at o n
  cases h' with
  |@row _ gs _ p=>
   have ls:=h.length
   rw[List.length_map]at ls
   have W:=p.length
   have q:∀(j:Nat) g,gs[j]?=some g->∃d l,ds[j]?=some d/\g=.Ac l/\Pt.Bf l d=true:=fun j g f=>by
    have N:=(ACe f).1
    obtain⟨d,t⟩:∃d,ds[j]?=some d:=⟨_,ACd (by lia)⟩
    obtain⟨c,m⟩:∃c,cs[j]?=some c:=⟨_,ACd (by lia)⟩
    have:=h.Ww (j:=j) (a:=.Ac d) (c:=c) (by rw[List.getElem?_map,t];rfl) m (Pt.Ap o d (ACg t)) (Au n c (ACg m)) (.Ac d) (p.at m f)
    obtain⟨l,C,O⟩:=He this
    exact⟨d,l,t,C,O⟩
   obtain⟨P,e⟩:=NV (gs:=gs) fun j g f=>by obtain⟨_,l,_,e,_⟩:=q j g f;exact⟨l,e⟩
   unfold BP
   rw[if_neg (by simp),e]
   refine Hg ?_
   simp only[Pt.Bf]
   have F:=Bn e
   refine Ff.mpr ⟨by rw[F,List.length_map]at W;lia,fun j l d y t=>?_⟩
   obtain⟨X,d2,s,A,Q⟩:=q j (.Ac l) (by rw[F,List.getElem?_map,y];rfl)
   rw[t]at s
   cases s
   cases A
   exact Q
 |_,_,.Yv (ks:=ks) (ns:=ns) (ds:=ds) (es:=es) (cs:=cs) D e h lz ll ap,o,n,_,_,.Ac _,h'=>by
  simp only[Bu,Pt.doc]at o n
  obtain⟨Y,R,o3,o4,Z⟩:=o
  obtain⟨c1,c2,c3,c4,c5,c6,c7⟩:=n
  cases h' with
  |@tab _ ss _ as gs _ _ u G H p=>
   have W:=p.length
   have la:as.length=ss.length:=by have:=congrArg List.length H;simpa using this.symm
   have q:∀(j:Nat) k g,ss[j]?=some k->gs[j]?=some g->∃d l,lk ks ds k=some d/\g=.Ac l/\Pt.Bf l d=true:=fun j k g v f=>by
    have N:=(ACe f).1
    obtain⟨c,m⟩:∃c,as[j]?=some c:=⟨_,ACd (by lia)⟩
    obtain⟨i,x,i1,S,I,w⟩:=C' (xs:=ds.map Ac) (as:=es.map Ac) c1 c2 D (by
     rw[show ns.map (lk ks (ds.map Ac))=(ns.map (lk ks ds)).map (Option.map Ac)by rw[List.map_map];exact List.map_congr_left fun k _=>FX Ac,e,List.map_map,List.map_map]
     rfl) H v m
    rw[FX]at w
    cases t:lk ks ds k with
    |none=>rw[t]at w;cases w
    |some d=>
     rw[t]at w
     have ex:Ak.Ac d=x:=ACf w
     subst ex
     have:=h.Ww S I (Pt.Ap Z d (Dg t).2) (Au c7 c (ACg I)) (.Ac d) (p.at m f)
     obtain⟨l,C,O⟩:=He this
     exact⟨d,l,rfl,C,O⟩
   have J:ss.length=gs.length:=by lia
   obtain⟨P,ej⟩:=NV (gs:=gs) fun j g f=>by
    obtain⟨k,v⟩:∃k,ss[j]?=some k:=⟨_,ACd (by have:=(ACe f).1;lia)⟩
    obtain⟨_,l,_,e,_⟩:=q j k g v f
    exact⟨l,e⟩
   have F:=Bn ej
   unfold BH
   rw[if_neg (by simp),ej]
   refine Hg (Wu (by rw[F,List.length_map]at J;exact J) (u.nodup_iff.mpr c2) (by rw[u.length_eq,D.length_eq]) fun j k l v y=>?_)
   obtain⟨X,d2,s,A,Q⟩:=q j k (.Ac l) v (by rw[F,List.getElem?_map,y];rfl)
   cases A
   exact⟨X,s,Q⟩
 |_,_,.row (xs:=xs) (cs:=cs) h,o,n,_,_,.row (cs:=gs) p,h'=>by
  simp only[Bu]at o n
  cases h' with
  |@row _ T _ r=>
   have l1:=h.length
   have l2:=p.length
   have l3:=r.length
   refine RT _ ⟨by lia,fun j g' g s A=>?_⟩
   have N:=(ACe s).1
   obtain⟨x,E⟩:∃x,xs[j]?=some x:=⟨_,ACd (by lia)⟩
   obtain⟨c,m⟩:∃c,cs[j]?=some c:=⟨_,ACd (by lia)⟩
   exact h.Ww E m (Au o x (ACg E)) (Au n c (ACg m)) (p.at E A) (r.at m s)
 |_,_,.tab (ks:=ks) (ns:=ns) (xs:=xs) (as:=as) (cs:=cs) D e h ll ap hl,o,n,_,_,.tab (ss:=ss) (as:=K) (cs:=gs) L U C p,h'=>by
  simp only[Bu]at o n
  obtain⟨Y,R,o3,o4,Z,o6,o7⟩:=o
  obtain⟨c1,c2,c3,c4,c5,c6,c7⟩:=n
  cases h' with
  |@tab _ B _ M T _ _ u G H r=>
   have es:=CN G U ((u.trans D).trans L.symm)
   subst es
   have l2:=p.length
   have l3:=r.length
   have la1:K.length=B.length:=by have:=congrArg List.length C;simpa using this.symm
   have la2:M.length=B.length:=by have:=congrArg List.length H;simpa using this.symm
   refine RU _ (L.nodup_iff.mpr R) (by lia) hl ⟨by lia,fun j g' g s A=>?_⟩
   have N:=(ACe s).1
   obtain⟨k,v⟩:∃k,B[j]?=some k:=⟨_,ACd (by lia)⟩
   obtain⟨c,m⟩:∃c,M[j]?=some c:=⟨_,ACd (by lia)⟩
   obtain⟨x,E⟩:∃x,K[j]?=some x:=⟨_,ACd (by lia)⟩
   obtain⟨i,a,i1,S,I,w⟩:=C' c1 c2 D e H v m
   have ea:a=x:=by
    have:=congrArg (fun z=>z[j]?) C
    simp only[List.getElem?_map,v,E]at this
    have:=ACf this
    rw[w]at this
    exact ACf this
   subst ea
   have pa:=Bx Y R D e
   exact h.Ww S I (Au o7 a (Dg w).2) (Au c7 c (ACg I)) (p.at E A) (r.at m s)
theorem CA.Ww:∀{as cs:List Ak},CA as cs->∀{j:Nat} {a c:Ak},as[j]?=some a->cs[j]?=some c->a.Bu->c.Bu->∀{b f:Ak},Good a b->Good c f->Pt.Bf f.pt b.pt=true
 |_,_,.nil,j,a,c,h,_=>by simp at h
 |_,_,.cons h r,0,a,c,d,e=>by
  simp at d e
  subst d e
  exact fun o g=>h.eq o g
 |_,_,.cons h r,j+1,a,c,d,e=>r.Ww (by simpa using d) (by simpa using e)
end
end Ak
variable{K:ACh} [BA K]
def GB (n:Nat):Sp:=fun c H Q _=>∃(v y:V) (a:Ak) (t:Pt),c=[v,y]/\Val H v a.pt/\Val H y t/\a.Bu/\t.doc/\a.size<=900/\t.size<=900/\a.dp<=60/\a.deep<=n/\∀b,AG H b->Q (.bl (Ak.lets a t)) b
end L2
namespace L2
open PySem PySem.Spec PyProof.Rows
def FE (H a:Hp):Hp:=fun b=>match H b with
 |some _=>a b
 |none=>match a b with
  |some (.CZ _ u)=>some u
  |x=>x
theorem Si {H a:Hp} {b:Addr} {o:HO} (h:H b=some o):FE H a b=a b:=by unfold FE;rw[h]
theorem Yx {H a:Hp} {b:Addr} {o:Obj} {u:HO} (h:H b=none) (h':a b=some (.CZ o u)):FE H a b=some u:=by unfold FE;rw[h,h']
theorem Hh {H a:Hp} {b:Addr} (h':a b=none):FE H a b=none:=by
 unfold FE
 rw[h']
 cases H b<;>rfl
theorem Kk {H a:Hp} {b:Addr} {u:HO} (h':a b=some u) (n:∀o z,u≠.CZ o z):FE H a b=some u:=by
 unfold FE
 rw[h']
 cases H b with
 |some _=>rfl
 |none=>
  cases u<;>first|rfl|exact absurd rfl (n _ _)
def KF (K:ACh) (H:Hp):Prop:=∀b o,K.lookup b=some o->H b=none
section
variable{X:Cx} {pins aI:List (Addr×Obj)} {σ σ':St} {H H':Hp} {s s':Shared}
theorem Inv.mD (I:Inv X pins σ H s) (a:Inv X aI σ' H' s'):Inv X aI σ' (FE H H') s':=by
 have B:=a.base
 refine⟨a.ok,a.os,a.bare,⟨B.keep,B.slot,fun b d q n h=>Hh (B.free b d q n h),B.there,fun b f q=>Kk (B.Ja b f q) (fun _ _ z=>by cases z),fun b d u q=>?_,fun b i q=>?_⟩,a.loc,a.cell,Hh a.free,fun x c q=>Hh (a.Dl x c q),fun p j=>let⟨k,l,m⟩:=a.pin p j;⟨k,Hh l,m⟩,fun b u q=>?_,a.len⟩
 ·rw[Si (I.base.Hz b d u q)]
  exact B.Hz b d u q
 ·obtain⟨more,t⟩:=B.LG b i q
  exact⟨more,Kk t (fun _ _ z=>by cases z)⟩
 ·have up:∀{v:HO},Ay X.prog X.w H' s'.heap b v->Ay X.prog X.w (FE H H') s'.heap b v:=fun x=>x.QL (fun c v _ r=>r) (fun c r=>Kk r (fun _ _ z=>by cases z)) fun c f r=>Kk r (fun _ _ z=>by cases z)
  unfold FE at q
  cases g:H b with
  |some o=>
   rw[g]at q
   exact up (a.BO b u q)
  |none=>
   rw[g]at q
   dsimp only at q
   split at q
   ·rename_i e
    cases q
    exact up (show Ay X.prog X.w H' s'.heap b (.CZ _ u)from a.BO b _ e).2
   ·exact up (a.BO b u q)
theorem Inv.kf (I:Inv X pins σ H s):KF X.K H:=fun b o e=>(I.bs b o (I.mod.eW b o e)).2
def mE (K:ACh) (t:TE):TE:=fun σ H Q=>t σ H fun v H'=>KF K (FE H H')->Q v (FE H H')
theorem Fg {e:Expr} {t:TE} (h:PE X e t):PE X e (mE X.K t):=fun pins s σ H Q I q=>
 Bo (h pins s σ H _ I q) fun u d ⟨v,f,a,b,c⟩=>have J:=I.mD a;⟨v,_,J,b,c J.kf⟩
end
section
variable{K:ACh} [BA K]
theorem Bj.one {K:ACh} {G:Hp} (kf:KF K G) {a:Addr} {xs ys:List V} (h:Bj K G a xs) (h':Bj K G a ys):xs=ys:=by
 rcases h with h|⟨o,f,n,e,_,g,_,r⟩<;>rcases h' with h'|⟨j,d,k,c,_,b,_,i⟩
 ·have z:=Rd.one h h' (fun o z e=>by cases e) (fun o z e=>by cases e)
  cases z
  rfl
 ·have:=kf _ _ c
  rcases h with r|⟨_,r⟩<;>rw[r]at this<;>cases this
 ·have:=kf _ _ e
  rcases h' with r|⟨_,r⟩<;>rw[r]at this<;>cases this
 ·rw[e]at c
  cases c
  rw[g]at b
  cases b
  exact r.inj i
theorem Rd.ne {G:Hp} {K:ACh} (kf:KF K G) {a:Addr} {u:HO} (h:Rd G a u) {o:Obj} (e:K.lookup a=Option.some o):False:=by
 have:=kf _ _ e
 rcases h with r|⟨_,r⟩<;>rw[r]at this<;>cases this
theorem Bj.lst {G:Hp} (kf:KF K G) {a:Addr} {xs ys:List V} (h:Bj K G a xs) (h':Rd G a (.lst ys)):False:=by
 rcases h with h|⟨o,_,_,e,_⟩
 ·cases Rd.one h h' (fun o z e=>by cases e) (fun o z e=>by cases e)
 ·exact h'.ne kf e
theorem Bj.dK {G:Hp} (kf:KF K G) {a:Addr} {xs:List V} {ys:List (Key×V)} (h:Bj K G a xs) (h':Rd G a (.dK ys)):False:=by
 rcases h with h|⟨o,_,_,e,_⟩
 ·cases Rd.one h h' (fun o z e=>by cases e) (fun o z e=>by cases e)
 ·exact h'.ne kf e
theorem Val.cQ {G:Hp} {a:Addr} {t:Pt} (h:Val G (.ref a) t):(∃vs ts,t=.lst ts/\Rd G a (.lst vs)/\Aa G vs ts)∨(∃vs ts,t=.tup ts/\Bj K G a vs/\Aa G vs ts)∨∃(kvs:List (Key×V)) (ks:List Str) (ts:List Pt),t=.BM ks ts/\Rd G a (.dK kvs)/\kvs.map (·.1)=ks.map Sum.inr/\Aa G (kvs.map (·.2)) ts:=by
 cases h with
 |lst h r=>exact .inl ⟨_,_,rfl,h,r⟩
 |tup h r=>exact .inr (.inl ⟨_,_,rfl,h,r⟩)
 |BM h b r=>exact .inr (.inr ⟨_,_,_,rfl,h,b,r⟩)
mutual
theorem Val.Kl {G:Hp} (kf:KF K G):∀{v:V} {s:Pt},Val G v s->∀{t:Pt},Val G v t->s=t
 |_,_,.int i,_,h=>by cases h;rfl
 |_,_,.str x,_,h=>by cases h;rfl
 |_,_,.bl x,_,h=>by cases h;rfl
 |_,_,.lst b d,_,h=>by
  rcases h.cQ with⟨_,_,rfl,a,c⟩|⟨_,_,rfl,a,c⟩|⟨_,_,_,rfl,a,f,c⟩
  ·cases Rd.one b a (fun o z e=>by cases e) (fun o z e=>by cases e)
   rw[Aa.Kl kf d c]
  ·exact(a.lst kf b).elim
  ·cases Rd.one b a (fun o z e=>by cases e) (fun o z e=>by cases e)
 |_,_,.tup b d,_,h=>by
  rcases h.cQ with⟨_,_,rfl,a,c⟩|⟨_,_,rfl,a,c⟩|⟨_,_,_,rfl,a,f,c⟩
  ·exact(b.lst kf a).elim
  ·cases Bj.one kf b a
   rw[Aa.Kl kf d c]
  ·exact(b.dK kf a).elim
 |_,_,.BM b g d,_,h=>by
  rcases h.cQ with⟨_,_,rfl,a,c⟩|⟨_,_,rfl,a,c⟩|⟨_,_,_,rfl,a,f,c⟩
  ·cases Rd.one b a (fun o z e=>by cases e) (fun o z e=>by cases e)
  ·exact(a.dK kf b).elim
  ·cases Rd.one b a (fun o z e=>by cases e) (fun o z e=>by cases e)
   rw[Aa.Kl kf d c,NO (g.symm.trans f)]
theorem Aa.Kl {G:Hp} (kf:KF K G):∀{vs:List V} {ss:List Pt},Aa G vs ss->∀{ts:List Pt},Aa G vs ts->ss=ts
 |_,_,.nil,_,h=>by cases h;rfl
 |_,_,.cons h r,_,h'=>by
  cases h' with
  |cons g q=>rw[Val.Kl kf h g,Aa.Kl kf r q]
end
theorem Val.cR {G:Hp} (kf:KF K G) (s:Pt) {v:V} {t:Pt} (h:Val G v s) (h':Val G v t):s=t:=Val.Kl kf h h'
end
namespace Pt
mutual
def JG:Pt->Nat
 |int _|str _|bl _=>0
 |lst xs=>1+BU xs
 |tup xs=>BU xs
 |BM _ xs=>BU xs
def BU:List Pt->Nat
 |[]=>0
 |x::r=>JG x+BU r
end
mutual
theorem MI:∀t:Pt,t.JG<=t.size
 |int _|str _|bl _=>by simp only[JG];lia
 |lst xs|tup xs|BM _ xs=>by have:=Gd xs;simp only[JG,size];lia
theorem Gd:∀xs:List Pt,BU xs<=AI xs
 |[]=>Nat.le_refl _
 |x::r=>by have:=MI x;have:=Gd r;simp only[BU,AI];lia
end
mutual
def FC:Pt->Nat
 |int _|str _|bl _=>0
 |lst xs|tup xs=>1+Fh xs
 |BM _ xs=>1+Fh xs
def Fh:List Pt->Nat
 |[]=>0
 |x::r=>max (FC x) (Fh r)
end
theorem PX:∀{xs:List Pt} {x:Pt},x∈xs->x.FC<=Fh xs
 |y::r,x,h=>by
  simp only[Fh]
  rcases List.mem_cons.mp h with rfl|h
  ·lia
  ·have:=PX h;lia
mutual
theorem PY:∀t:Pt,t.FC<=t.deep
 |int _|str _|bl _=>by simp only[FC];lia
 |lst xs|tup xs|BM _ xs=>by have:=MJ xs;simp only[FC,deep];lia
theorem MJ:∀xs:List Pt,Fh xs<=AW xs
 |[]=>Nat.le_refl _
 |x::r=>by have:=PY x;have:=MJ r;simp only[Fh,AW];lia
end
theorem Ho:∀(a b:List Pt),BU (a++b)=BU a+BU b
 |[],b=>by simp[BU]
 |x::a,b=>by simp only[List.cons_append,BU,Ho a b];lia
theorem Di:∀(xs:List Pt) (i:Nat),BU (xs.take i)<=BU xs
 |[],i=>by simp
 |x::r,0=>by simp[BU]
 |x::r,i+1=>by have:=Di r i;simp only[List.take_succ_cons,BU];lia
theorem Ge {xs:List Pt} {i:Nat} {x:Pt} (h:xs[i]?=some x):BU (xs.take (i+1))=BU (xs.take i)+x.JG:=by
 rw[List.take_add_one,h,Ho]
 simp[BU]
end Pt
def UU:Key:=Sum.inr "zzzzzzzz"
structure Wd (kvs cS:List (Key×V)):Prop where
 at_:∀(i:Nat) k v,cS[i]?=some (k,v)->kvs[i]?=some (k,v)∨v=.int 77
 keys:cS.map (·.1)=kvs.map (·.1)∨(UU∉kvs.map (·.1)/\cS.map (·.1)=kvs.map (·.1)++[UU])
theorem Wd.refl (kvs:List (Key×V)):Wd kvs kvs:=⟨fun _ _ _ h=>.inl h,.inl rfl⟩
theorem Wd.nd {kvs c:List (Key×V)} (h:Wd kvs c) (nd:(kvs.map (·.1)).Nodup):(c.map (·.1)).Nodup:=by
 rcases h.keys with e|⟨n,e⟩
 ·rw[e];exact nd
 ·rw[e]
  refine List.nodup_append.mpr ⟨nd,by simp,fun a f b d z=>?_⟩
  rw[List.mem_singleton]at d
  subst d
  subst z
  exact n f
theorem Wd.len {kvs a:List (Key×V)} (h:Wd kvs a):a.length<=kvs.length+1:=by
 rcases h.keys with e|⟨n,e⟩
 ·have:=congrArg List.length e;simp at this;lia
 ·have:=congrArg List.length e;simp at this;lia
theorem Wd.put {kvs a:List (Key×V)} (h:Wd kvs a):Wd kvs (putK a UU (.int 77)):=by
 unfold putK
 by_cases c:(a.any fun d=>decide (d.1=UU))=true
 ·rw[if_pos c]
  refine⟨fun i k v e=>?_,?_⟩
  ·rw[List.getElem?_map]at e
   cases g:a[i]? with
   |none=>rw[g]at e;cases e
   |some p=>
    rw[g]at e
    simp only[Option.map_some,Option.some.injEq]at e
    by_cases z:p.1=UU
    ·rw[if_pos z]at e
     cases e
     exact .inr rfl
    ·rw[if_neg z]at e
     subst e
     exact h.at_ i k v g
  ·have e:(a.map fun d=>if d.1=UU then(d.1,V.int 77)else d).map (·.1)=a.map (·.1):=by
    rw[List.map_map]
    refine List.map_congr_left fun p _=>?_
    show(if p.1=UU then(p.1,V.int 77)else p).1=p.1
    split<;>rfl
   rw[e]
   exact h.keys
 ·rw[if_neg c]
  have b:UU∉a.map (·.1):=fun z=>by
   obtain⟨p,j,e⟩:=List.mem_map.mp z
   exact c (List.any_eq_true.mpr ⟨p,j,decide_eq_true e⟩)
  rcases h.keys with e|⟨n,e⟩
  ·rw[e]at b
   refine⟨fun i k v g=>?_,.inr ⟨b,by rw[List.map_append,e];rfl⟩⟩
   rcases Nat.lt_or_ge i a.length with f|f
   ·rw[List.getElem?_append_left f]at g
    exact h.at_ i k v g
   ·rw[List.getElem?_append_right f]at g
    have:=ACg g
    rw[List.mem_singleton]at this
    cases this
    exact .inr rfl
  ·rw[e]at b
   exact absurd (List.mem_append_right _ (List.mem_singleton.mpr rfl)) b
inductive Wo (c:Nat):HO->HO->Prop
 |lst (xs:List V) (k:Nat) (b:k<=c):Wo c (.lst xs) (.lst (xs++List.replicate k (.int 77)))
 |tup (xs:List V):Wo c (.tup xs) (.tup xs)
 |BM (kvs a:List (Key×V)) (h:Wd kvs a):Wo c (.dK kvs) (.dK a)
theorem Wo.mono {c b:Nat} {u u':HO} (h:Wo c u u') (l:c<=b):Wo b u u':=by
 cases h with
 |lst a k d=>exact .lst a k (by lia)
 |tup a=>exact .tup a
 |BM _ _ h=>exact .BM _ _ h
def Plain:HO->Prop
 | .lst _| .tup _| .dK _=>True
 |_=>False
section
variable{K:ACh} [BA K]
def Wn (G:Hp) (d c:Nat) (H:Hp):Prop:=∀b u t,Plain u->Rd G b u->Val G (.ref b) t->t.FC<=d->∃a,H b=some a/\Wo c u a
def Hy (G:Hp) (d:Nat) (H a:Hp):Prop:=∀b o,H b=some o->a b=some o∨∃u t,Plain u/\Rd G b u/\Val G (.ref b) t/\t.FC<=d
theorem Hy.refl {G H:Hp} {d:Nat}:Hy G d H H:=fun b o e=>.inl e
theorem Hy.of {G H a:Hp} {d:Nat} (s:AG H a):Hy G d H a:=fun b o e=>.inl (s b o e)
theorem Hy.trans {G H a H2:Hp} {d:Nat} (h:Hy G d H a) (h':Hy G d a H2):Hy G d H H2:=fun b o e=>by
 rcases h b o e with h|h
 ·exact h' b o h
 ·exact .inr h
theorem Hy.mono {G H a:Hp} {d d':Nat} (h:Hy G d H a) (l:d<=d'):Hy G d' H a:=fun b o e=>(h b o e).imp id fun⟨u,t,p,r,v,z⟩=>⟨u,t,p,r,v,by lia⟩
theorem Wn.mono {G H:Hp} {d d' c a:Nat} (h:Wn G d c H) (l:d'<=d) (f:c<=a):Wn G d' a H:=fun b u t p r v z=>
 let⟨g,e,w⟩:=h b u t p r v (by lia)
 ⟨g,e,w.mono f⟩
theorem Wn.up {G H a:Hp} {d c:Nat} (h:Wn G d c H) (s:AG H a):Wn G d c a:=fun b u t p r v z=>
 let⟨f,e,w⟩:=h b u t p r v z
 ⟨f,s _ _ e,w⟩
theorem Wn.next {G H a:Hp} (kf:KF K G) {d d' c g:Nat} (h:Wn G d c H) (h':Wn G d' g a) (f:Hy G d' H a) (l:c<=g):Wn G d g a:=fun b u t p r v z=>by
 rcases Nat.lt_or_ge d' t.FC with i|i
 ·obtain⟨j,e,w⟩:=h b u t p r v z
  rcases f b j e with k|⟨_,n,_,_,m,z2⟩
  ·exact⟨j,k,w.mono l⟩
  ·rw[Val.cR kf t v m]at i
   lia
 ·exact h' b u t p r v i
theorem Hy.at_ {G H a:Hp} (kf:KF K G) {d:Nat} (f:Hy G d H a) {b:Addr} {o:HO} {t:Pt} (v:Val G (.ref b) t) (l:d<t.FC) (e:H b=some o):a b=some o:=by
 rcases f b o e with c|⟨_,h,_,_,g,z2⟩
 ·exact c
 ·rw[Val.cR kf t v g]at l
  lia
def Wt (ts us:List Pt):Prop:=∀(i:Nat) u,us[i]?=some u->ts[i]?=some u∨u=.int 77
theorem Wt.take:∀{ts us:List Pt},Wt ts us->∀i:Nat,Pt.BU (us.take i)<=Pt.BU (ts.take i)
 |ts,[],h,i=>by simp[Pt.BU]
 |ts,u::us,h,0=>by simp[Pt.BU]
 |[],u::us,h,i+1=>by
  have e:u=.int 77:=by
   rcases h 0 u rfl with z|z
   ·simp at z
   ·exact z
  have:=Wt.take (ts:=[]) (us:=us) (fun j x a=>.inr (by
   rcases h (j+1) x (by simpa using a)with z|z
   ·simp at z
   ·exact z)) i
  simp only[List.take_succ_cons,List.take_nil,Pt.BU,e,Pt.JG]at this⊢
  lia
 |t::ts,u::us,h,i+1=>by
  have:=Wt.take (ts:=ts) (us:=us) (fun j x a=>by
   have:=h (j+1) x (by simpa using a)
   simpa using this) i
  simp only[List.take_succ_cons,Pt.BU]
  rcases h 0 u rfl with z|z
  ·simp at z
   rw[z]
   lia
  ·rw[z]
   simp only[Pt.JG]
   lia
theorem Pt.size_take {ts:List Pt} {i:Nat} {u:Pt} (h:ts[i]?=some u):u.size+Pt.BU (ts.take i)<=Pt.AI ts:=by
 induction ts generalizing i with
 |nil=>simp at h
 |cons t r a=>
  cases i with
  |zero=>
   simp at h
   subst h
   simp[Pt.BU,Pt.AI]
  |succ i=>
   have:=a (by simpa using h)
   have:=Pt.MI t
   simp only[List.take_succ_cons,Pt.BU,Pt.AI]
   lia
theorem Wt.size {ts us:List Pt} (h:Wt ts us) {i:Nat} {u:Pt} (b:us[i]?=some u):u.size+Pt.BU (us.take i)<=1+Pt.AI ts:=by
 have a:=h.take i
 rcases h i u b with e|rfl
 ·have:=Pt.size_take e
  lia
 ·have:=Pt.Di ts i
  have:=Pt.Gd ts
  simp only[Pt.size]
  lia
theorem Wt.FC {ts us:List Pt} (h:Wt ts us) {i:Nat} {u:Pt} (a:us[i]?=some u):u.FC<=Pt.Fh ts:=by
 rcases h i u a with e|rfl
 ·exact Pt.PX (ACg e)
 ·simp only[Pt.FC]
  lia
theorem Pt.PZ:∀{xs:List Pt},Pt.Kf xs->∀x∈xs,x.Nl
 |y::r,h,x,a=>by
  simp only[Pt.Kf]at h
  rcases List.mem_cons.mp a with rfl|a
  ·exact h.1
  ·exact Pt.PZ h.2 x a
theorem Wt.Nl {ts us:List Pt} (h:Wt ts us) (o:Pt.Kf ts) {i:Nat} {u:Pt} (a:us[i]?=some u):u.Nl:=by
 rcases h i u a with e|rfl
 ·exact Pt.PZ o u (ACg e)
 ·trivial
theorem Wt.lst {G:Hp} {vs:List V} {ts:List Pt} (r:Aa G vs ts) (k:Nat):∃us,Aa G (vs++List.replicate k (.int 77)) us/\Wt ts us:=by
 refine⟨ts++List.replicate k (.int 77),r.append (.of (by simp) fun i v t b c=>?_),fun i u h=>?_⟩
 ·have d:=List.eq_of_mem_replicate (ACg b)
  have e:=List.eq_of_mem_replicate (ACg c)
  rw[d,e]
  exact .int 77
 ·rcases Nat.lt_or_ge i ts.length with a|a
  ·rw[List.getElem?_append_left a]at h
   exact .inl h
  ·rw[List.getElem?_append_right a]at h
   exact .inr (List.eq_of_mem_replicate (ACg h))
theorem Wt.BM {G:Hp} {kvs a:List (Key×V)} {ts:List Pt} (r:Aa G (kvs.map (·.2)) ts) (w:Wd kvs a):∃us,Aa G (a.map (·.2)) us/\Wt ts us:=by
 suffices gen:∀n,n<=a.length->∃us,Aa G ((a.map (·.2)).take n) us/\us.length=n/\Wt ts us by
  obtain⟨us,b,_,c⟩:=gen a.length (Nat.le_refl _)
  refine⟨us,?_,c⟩
  rw[List.take_of_length_le (by simp)]at b
  exact b
 intro n
 induction n with
 |zero=>exact fun _=>⟨[],by simp;exact .nil,rfl,fun i u h=>by simp at h⟩
 |succ n k=>
  intro x
  obtain⟨us,b,c,l⟩:=k (by lia)
  obtain⟨p,f⟩:∃p,a[n]?=some p:=⟨_,ACd (by lia)⟩
  have m:(a.map (·.2))[n]?=some p.2:=by rw[List.getElem?_map,f];rfl
  have g:∀{t:Pt},Val G p.2 t->(ts[n]?=some t∨t=.int 77)->∃us,Aa G ((a.map (·.2)).take (n+1)) us/\us.length=n+1/\Wt ts us:=fun{t} o q=>by
   refine⟨us++[t],?_,by simp[c],fun i u h=>?_⟩
   ·rw[List.take_add_one,m]
    exact b.append (.cons o .nil)
   ·rcases Nat.lt_or_ge i us.length with j|j
    ·rw[List.getElem?_append_left j]at h
     exact l i u h
    ·have d:i=us.length:=by
      have:=(ACe h).1
      simp at this
      lia
     subst d
     simp at h
     subst h
     rw[c]
     exact q
  rcases w.at_ n p.1 p.2 f with e|e
  ·have:(kvs.map (·.2))[n]?=some p.2:=by rw[List.getElem?_map,e];rfl
   obtain⟨t,s,v⟩:=r.get this
   exact g v (.inl s)
  ·exact g (t:=.int 77) (by rw[e];exact .int 77) (.inr rfl)
theorem Pa:∀{kvs:List (Key×V)} {i:Nat} {k:Key} {v:V},(kvs.map (·.1)).Nodup->kvs[i]?=some (k,v)->CS kvs k=some v
 |[],i,k,v,_,h=>by simp at h
 |p::r,0,k,v,nd,h=>by
  simp at h
  subst h
  exact DV rfl
 |p::r,i+1,k,v,nd,h=>by
  simp only[List.getElem?_cons_succ]at h
  simp only[List.map_cons,List.nodup_cons]at nd
  have a:k∈r.map (·.1):=List.mem_map.mpr ⟨_,ACg h,rfl⟩
  rw[DW (fun e=>nd.1 (e▸a))]
  exact Pa nd.2 h
theorem Val.kinds {G:Hp} {v:V} {t:Pt} (h:Val G v t):(∃T:String,(∀H,aB K H v T)/\Qk T "dict"=false/\WI T=false/\Qk T "list"=false/\t.JG=0)∨(∃a vs ts,v=.ref a/\t=.lst ts/\Rd G a (.lst vs)/\Aa G vs ts)∨(∃a vs ts,v=.ref a/\t=.tup ts/\Bj K G a vs/\Aa G vs ts)∨∃a kvs ks ts,v=.ref a/\t=.BM ks ts/\Rd G a (.dK kvs)/\kvs.map (·.1)=ks.map Sum.inr/\Aa G (kvs.map (·.2)) ts:=by
 cases h with
 |int i=>exact .inl ⟨"int",fun H=>.n (.int i),rfl,rfl,rfl,rfl⟩
 |str i=>exact .inl ⟨"str",fun H=>.n (.str i),rfl,rfl,rfl,rfl⟩
 |bl i=>exact .inl ⟨"bool",fun H=>.n (.bl i),rfl,rfl,rfl,rfl⟩
 |lst h r=>exact .inr (.inl ⟨_,_,_,rfl,rfl,h,r⟩)
 |tup h r=>exact .inr (.inr (.inl ⟨_,_,_,rfl,rfl,h,r⟩))
 |BM h b r=>exact .inr (.inr (.inr ⟨_,_,_,_,rfl,rfl,h,b,r⟩))
theorem Wn.change {G H:Hp} {d c:Nat} (h:Wn G d c H) {a:Addr} {u u':HO} (p:Plain u) (r:Rd G a u) (w:Wo c u u'):Wn G d c (upd H a u'):=fun b j t f g v z=>by
 by_cases i:b=a
 ·subst i
  have nf:∀{x:HO},Plain x->∀o z,x≠.CZ o z:=fun k o z e=>by subst e;exact k
  rw[Rd.one g r (nf f) (nf p)]
  exact⟨u',AE,w⟩
 ·rw[AJ i]
  exact h b j t f g v z
theorem Hy.change {G H c:Hp} {d:Nat} (h:Hy G d H c) {a:Addr} {u u':HO} {t:Pt} (p:Plain u) (r:Rd G a u) (v:Val G (.ref a) t) (l:t.FC<=d):Hy G d H (upd c a u'):=fun b o e=>by
 by_cases f:b=a
 ·subst f
  exact .inr ⟨u,t,p,r,v,l⟩
 ·rw[AJ f]
  exact h b o e
theorem Wx {n:Nat} (h:n<=100010):n<sizeLine:=by rw[sizeLine_eq];lia
inductive Sj {K:ACh} [BA K] (n:Nat) (vs:List V) (H:Hp) (Q:VK) (a:XK):Prop
 |mk (G:Hp) (v:V) (t:Pt) (c:Nat) (d:vs=[v]) (e:KF K G) (f:Val G v t) (g:t.Nl) (h:t.FC<n) (i:t.size+c<=100000) (j:Wn G t.FC c H) (k:∀(b:Hp),Wn G t.FC (c+t.JG) b->Hy G t.FC H b->Q .BV b):Sj n vs H Q a
def Hq (n:Nat):Sp:=fun a H Q E=>Sj n a H Q E
end
def tm (K:ACh) (a:Addr) (n:Nat):It:=
 ⟨fun i H=>∃b x,Ah K H a b/\b.length=n/\i<n/\b[n-1-i]?=some x,fun i H x c=>c=H/\∀b,Ah K H a b->b[n-1-i]?=some x,fun i H=>(∃b,Ah K H a b)/\i=n⟩
theorem Wy {P:Program} {w:World} {K:ACh} {tg:Expr} (a it:Addr) (n:Nat):Turn P w K tg (tm K a n) [it] it (fun i h=>i<=n/\h.IsRevIter it a ((n:Int)-1-(i:Int)))where
 mem:=by simp
 obj:=fun i h st b hb=>by
  have e:b=it:=by simpa using hb
  subst e
  obtain⟨_,o,e,c,d⟩:=st
  exact⟨o,e,fun v z=>by rw[d]at z;cases z⟩
 keep:=fun i h h' st k=>⟨st.1,st.2.at fun o e=>k it (by simp) o e⟩
 item:=by
  intro X hP hw hK hc i pins s σ H E I hf st hg
  subst hP hw hK
  obtain⟨xs,x,hq,hn,hi,hx⟩:=hg
  obtain⟨its,rv,p,hz⟩:=I.list hq
  obtain⟨u,hu,ru⟩:=rv.get hx
  obtain⟨f0,f1,f2,f3,f4,f5⟩:=hf it (by simp)
  have ei:(n:Int)-1-(i:Int)=((n-1-i:Nat):Int):=by lia
  have gU:=st.2
  rw[ei]at gU
  refine wpAny_pyNext_rev_item gU p.isList (x:=u) (by simpa using hu) fun h' Nj sb=>?_
  have I1:Inv X pins σ H {s with heap:=h'}:=I.turned (t':=s.toks) (fun b o hb e=>(sb.2 b hb).trans e) f0 f1 f3 f4 f5
  obtain⟨o,e,c,d⟩:=id Nj
  have e2:((n-1-i:Nat):Int)-1=(n:Int)-1-((i+1:Nat):Int):=by lia
  rw[e2]at Nj
  exact⟨u,rfl,Lc (s:={s with heap:=h'}) e c d (by decide) ⟨x,H,I1,ru,⟨rfl,fun ys hy=>by rw[I.Nw hy hq];exact hx⟩,⟨by lia,Nj⟩,fun b hb=>(hf b hb).1⟩⟩
 done:=by
  intro X hP hw hK hc i pins s σ H E I hf st hg
  subst hP hw hK
  obtain⟨_,rfl⟩:=hg
  obtain⟨f0,f1,f2,f3,f4,f5⟩:=hf it (by simp)
  have e2:(i:Int)-1-(i:Int)= -1:=by lia
  have gU:=st.2
  rw[e2]at gU
  exact wpAny_pyNext_rev_end (I.ok.hd hc) gU fun h' eb=>⟨rfl,I.turned (t':=s.toks) (fun b o hb e=>eb b o hb e) f0 f1 f3 f4 f5⟩
 self:=fun _ _ _ _ _ st h=>wpAny_pyIter_revIter st.2 h
section
variable{X:Cx} {tg:Expr}
def mF (K:ACh) (d:TA):TI:=fun e H R=>d e H fun f b=>∃a c,f=[.ref a]/\Ah K b a c/\R (tm K a c.length) b
theorem Wz {x:Str} {p pos:Pos} {e:Expr} {k:TA} (l:Gl X x) (m:X.mg x=none) (n:bootBuiltins x=some (.type "reversed")) (r:PA X [e] k) (t:x≠"__name__":=by decide) (g:(x==("__debug__":Str))=false:=by decide)
  (v:starEach [e] X.env=(false,eval e X.env)::starEach [] X.env:=by rfl) (i:(backTo pos (starEach [] X.env)).any (·.1)=false:=by rfl):PI X tg (.Call (.Name x p) [e] [] pos) (mF X.K k):=by
 intro pins s w H R I h
 refine wpAny_Call_Name_kw (Ec I l m n ?_ t g)
 refine PyProof.Rows.callWith_type1 (Bo (r pos pins s w H _ I h) fun L c y=>y.elim fun M z f A B=>?_) v i
 obtain⟨a,j,rfl,C,q⟩:=B
 obtain⟨u,rfl,D⟩:=vals1 A
 cases D
 obtain⟨d,E,F,N⟩:=f.list C
 refine call_reversed_list F.isList ?_
 have G:(d.toArray.size:Int)=(j.length:Int):=by rw[List.size_toArray,<-E.length]
 have st:(c.heap.push (revObj a ((d.toArray.size:Int)-1))).IsRevIter c.heap.objs.size a ((j.length:Int)-1):=by
  rw[G]
  exact⟨_,Heap.get?_push_size _ rfl,rfl,rfl⟩
 refine wpAny_pyIter_revIter st ?_
 refine⟨c.heap.objs.size,[c.heap.objs.size],_,_,z,rfl,f.kept (t':=c.toks) fun b o e=>Heap.get?_push_of_some _ e,Wy a _ j.length,⟨Nat.zero_le _,by simpa using st⟩,fun b J=>?_,q⟩
 have e:b=c.heap.objs.size:=by simpa using J
 subst e
 exact f.QR (Nat.le_refl _) (f.BO.fresh (Nat.le_refl _))
end
namespace Ak
mutual
def jw:Ak->Nat
 |any=>0
 |Ac d=>d.wide
 |row xs _=>aJ xs
 |tab _ xs _ _=>aJ xs
def aJ:List Ak->Nat
 |[]=>0
 |x::r=>max (jw x) (aJ r)
end
theorem NW:∀{xs:List Ak} {x:Ak},x∈xs->x.jw<=aJ xs
 |y::r,x,h=>by
  simp only[aJ]
  rcases List.mem_cons.mp h with rfl|h
  ·lia
  ·have:=NW h;lia
mutual
theorem aK:∀a:Ak,a.ok->a.jw<=20
 |any,_=>by simp only[jw];lia
 |Ac d,o=>by
  simp only[ok]at o
  have:=Pt.Ce d o.2.1
  simp only[jw]
  lia
 |row b _,o=>by simp only[ok]at o;simp only[jw];exact RV b o
 |tab _ b _ _,o=>by simp only[ok]at o;simp only[jw];exact RV b o.2.2.2.2.2.2
theorem RV:∀xs:List Ak,IE xs->aJ xs<=20
 |[],_=>by simp only[aJ];lia
 |x::r,o=>by
  simp only[IE]at o
  have:=aK x o.1
  have:=RV r o.2
  simp only[aJ]
  lia
end
theorem JY (bs:List Ak) (b:Ak):D' bs++[b.pt]=D' (bs++[b]):=by rw[BG,BG,List.map_append];rfl
theorem CA.step {as bs:List Ak} {i:Nat} {a b:Ak} (h:CA (as.take i) bs) (c:as[i]?=some a) (s:GP a b):CA (as.take (i+1)) (bs++[b]):=by
 rw[List.take_add_one,c]
 exact h.snoc s
end Ak
theorem W_ {ss:List Str} {i:Nat} (b:i<ss.length):(ss.map V.str)[(ss.map V.str).length-1-i]?=some (.str (ss.reverse.getD i "")):=by
 have a:ss.length-1-i<ss.length:=by lia
 rw[List.length_map,List.getElem?_map,ACd a,List.getD_eq_getElem?_getD,List.getElem?_reverse b,ACd a]
 rfl
theorem W' (ys:List Str) (h:2<=ys.length):GN (ys.map V.str) none (some 2)=(ys.take 2).map V.str:=by
 have e:GN (ys.map V.str) none (some 2)=GN (ys.map V.str) (some ((0:Nat):Int)) (some ((2:Nat):Int)):=by
  unfold GN
  have:HT.FJ (ys.map V.str).length 0 none=HT.FJ (ys.map V.str).length 0 (some ((0:Nat):Int)):=by
   unfold HT.FJ
   simp
  rw[this]
  rfl
 rw[e,PF _ 0 2 (by lia) (by rw[List.length_map];exact h)]
 simp[List.map_take]
section
variable{K:ACh} [BA K]
inductive MK {K:ACh} [BA K] (n:Nat) (vs:List V) (H:Hp) (Q:VK) (e:XK):Prop
 |mk (w:V) (a:Ak) (l f:Addr) (cs:List Int) (ys:List Str) (i:vs=[w,.ref l,.ref f]) (j:Val (Du l H) w a.pt) (k:a.Bu) (m:a.jw<=59) (o:a.dp+22<=n) (g:a.dp<=20) (p:a.wt<=900) (q:H l=some (.lst (cs.map V.int))) (r:cs.length<=100) (s:f≠l) (t:UE H f ys)
  (h:∀(v:V) (c:Ak) (b:List Int) (d:Hp),Bt (some l) H d->d l=some (.lst (b.map V.int))->b.length<=cs.length->Val (nw H d) v c.pt->Ak.GP a c->Q v d):MK n vs H Q e
def Fi (n:Nat):Sp:=fun a H Q E=>MK n a H Q E
end
namespace Ak
mutual
def Il:Ak->Prop
 |any=>True
 |Ac _=>True
 |row xs _=>RW xs
 |tab _ xs ls m=>(m=true->ls.length<=60/\ls.Nodup/\sortedS ls=true)/\RW xs
def RW:List Ak->Prop
 |[]=>True
 |x::r=>Il x/\RW r
end
mutual
theorem XA:∀a:Ak,a.ok->a.Il
 |any,_=>trivial
 |Ac _,_=>trivial
 |row xs _,o=>by simp only[ok]at o;simp only[Il];exact NX xs o
 |tab _ xs _ _,o=>by simp only[ok]at o;simp only[Il];exact⟨fun _=>o.2.2.2.2.1,NX xs o.2.2.2.2.2.2⟩
theorem NX:∀xs:List Ak,IE xs->RW xs
 |[],_=>trivial
 |x::r,o=>by simp only[IE]at o;exact⟨XA x o.1,NX r o.2⟩
end
theorem Fj:∀{xs:List Ak},RW xs->∀x∈xs,Il x
 |y::r,h,x,a=>by
  simp only[RW]at h
  rcases List.mem_cons.mp a with rfl|a
  ·exact h.1
  ·exact Fj h.2 x a
mutual
theorem GP.Il:∀{a c:Ak},GP a c->a.Bu->a.Il->c.Il
 |_,_,.any,_,_=>trivial
 |_,_,.Ac d,_,_=>trivial
 |_,_,.Yu h,o,_=>by
  simp only[Ak.Bu,Pt.doc]at o
  simp only[Ak.Il]
  exact h.Il (fun x b=>by obtain⟨d,f,rfl⟩:=List.mem_map.mp b;exact Pt.Ap o d f) (fun x b=>by obtain⟨d,f,rfl⟩:=List.mem_map.mp b;trivial)
 |_,_,.Yv i e h u m n,o,_=>by
  simp only[Ak.Bu,Pt.doc]at o
  obtain⟨j,k,p,q,l⟩:=o
  have g:=Bx j k i e
  exact⟨fun z=>(nomatch z),h.Il (fun x b=>by obtain⟨d,f,rfl⟩:=List.mem_map.mp b;exact Pt.Ap l d (g.mem_iff.mp f)) (fun x b=>by obtain⟨d,f,rfl⟩:=List.mem_map.mp b;trivial)⟩
 |_,_,.row h,o,s=>by
  simp only[Ak.Bu]at o
  simp only[Ak.Il]at s⊢
  exact h.Il (Au o) (Fj s)
 |_,_,.tab i e h m n r,o,s=>by
  simp only[Ak.Bu]at o
  simp only[Ak.Il]at s⊢
  obtain⟨j,k,p,q,l,v,t⟩:=o
  have g:=Bx j k i e
  exact⟨fun z=>by rw[r z];exact s.1 z,h.Il (fun x b=>Au t x (g.mem_iff.mp b)) (fun x b=>Fj s.2 x (g.mem_iff.mp b))⟩
theorem CA.Il:∀{as cs:List Ak},CA as cs->(∀a∈as,a.Bu)->(∀a∈as,a.Il)->RW cs
 |_,_,.nil,_,_=>trivial
 |_,_,.cons h r,o,s=>⟨h.Il (o _ List.mem_cons_self) (s _ List.mem_cons_self),r.Il (fun x b=>o x (List.mem_cons_of_mem _ b)) (fun x b=>s x (List.mem_cons_of_mem _ b))⟩
end
mutual
def Pb:Ak->Prop
 |any=>True
 |Ac _=>True
 |row xs m=>(m=true∨CI xs=none)/\NY xs
 |tab ks xs ls m=>((m=true/\ls.length<=60/\ls.Nodup/\sortedS ls=true)∨(m=false/\ls=[]/\CI xs=none))/\(∀l∈ls,l∉ks)/\NY xs
def NY:List Ak->Prop
 |[]=>True
 |x::r=>Pb x/\NY r
end
theorem Pc:∀{xs:List Ak},NY xs->∀x∈xs,Pb x
 |y::r,h,x,a=>by
  simp only[NY]at h
  rcases List.mem_cons.mp a with rfl|a
  ·exact h.1
  ·exact Pc h.2 x a
theorem Pd {cs:List Ak} (m:Bool) (h:NY cs):(BP cs m).Pb:=by
 unfold BP
 cases m with
 |true=>rw[if_pos rfl];exact⟨.inl rfl,h⟩
 |false=>
  rw[if_neg (by decide)]
  cases e:CI cs with
  |some a=>trivial
  |none=>exact⟨.inr e,h⟩
theorem Pe {ss:List Str} {cs:List Ak} {ls:List Str} (m:Bool) (s:m=true->ls.length<=60/\ls.Nodup/\sortedS ls=true) (a:∀l∈ls,l∉ss) (h:NY cs):(BH ss cs ls m).Pb:=by
 unfold BH
 cases m with
 |true=>rw[if_pos rfl];exact⟨.inl ⟨rfl,s rfl⟩,a,h⟩
 |false=>
  rw[if_neg (by decide)]
  cases e:CI cs with
  |some c=>trivial
  |none=>exact⟨.inr ⟨rfl,rfl,e⟩,fun l b=>(nomatch b),h⟩
mutual
theorem Good.Pb:∀{a b:Ak},Good a b->a.Bu->a.Il->b.Pb
 |_,_,.any,_,_=>trivial
 |_,_,.Ac _,_,_=>trivial
 |_,_,.row (m:=m) h,o,s=>by
  simp only[Ak.Bu]at o
  simp only[Ak.Il]at s
  exact Pd m (h.Pb (Au o) (Fj s))
 |_,_,.tab (m:=m) d p e h,o,s=>by
  simp only[Ak.Bu]at o
  simp only[Ak.Il]at s
  obtain⟨g,i,q,r,t,j,k⟩:=o
  have f:=Bx g i d e
  exact Pe m s.1 (fun l n w=>j l n (d.mem_iff.mp w)) (h.Pb (fun x c=>Au k x (f.mem_iff.mp c)) (fun x c=>Fj s.2 x (f.mem_iff.mp c)))
theorem B'.Pb:∀{as cs:List Ak},B' as cs->(∀a∈as,a.Bu)->(∀a∈as,a.Il)->NY cs
 |_,_,.nil,_,_=>trivial
 |_,_,.cons h r,o,s=>⟨h.Pb (o _ List.mem_cons_self) (s _ List.mem_cons_self),r.Pb (fun x b=>o x (List.mem_cons_of_mem _ b)) (fun x b=>s x (List.mem_cons_of_mem _ b))⟩
end
def word:Ak->Str
 |any=>"any"
 |Ac _=>"just"
 |row _ _=>"row"
 |tab _ _ _ _=>"table"
theorem ML:∀{xs:List Ak},CI xs=none->∃(i:Nat) (x:Ak),xs[i]?=some x/\x.word≠"just"
 |[],h=>by simp[CI]at h
 |x::r,h=>by
  cases x with
  |Ac d=>
   simp only[CI,Option.map_eq_none_iff]at h
   obtain⟨i,y,a,b⟩:=ML h
   exact⟨i+1,y,by simpa using a,b⟩
  |any=>exact⟨0,_,rfl,by simp only[word];decide⟩
  |row _ _=>exact⟨0,_,rfl,by simp only[word];decide⟩
  |tab _ _ _ _=>exact⟨0,_,rfl,by simp only[word];decide⟩
end Ak
section
variable{K:ACh} [BA K]
mutual
theorem Val.cT {G H:Hp} (s:∀b u,Plain u->Rd G b u->Rd H b u):∀{v:V} {t:Pt},Val G v t->Val H v t
 |_,_,.int i=>.int i
 |_,_,.str i=>.str i
 |_,_,.bl i=>.bl i
 |_,_,.lst h r=>.lst (s _ _ trivial h) (Aa.cT s r)
 |_,_,.tup h r=>.tup (h.imp (s _ _ trivial) id) (Aa.cT s r)
 |_,_,.BM h a r=>.BM (s _ _ trivial h) a (Aa.cT s r)
theorem Aa.cT {G H:Hp} (s:∀b u,Plain u->Rd G b u->Rd H b u):∀{vs:List V} {ts:List Pt},Aa G vs ts->Aa H vs ts
 |_,_,.nil=>.nil
 |_,_,.cons h r=>.cons (Val.cT s h) (Aa.cT s r)
end
def XB (G H:Hp):Prop:=∀b u,Plain u->Rd G b u->H b=some u
theorem XB.up {G H a:Hp} (p:XB G H) (s:AG H a):XB G a:=fun b u c r=>s _ _ (p b u c r)
theorem XB.val {G H:Hp} (p:XB G H) {v:V} {t:Pt} (h:Val G v t):Val H v t:=h.cT fun b u a r=>.inl (p b u a r)
theorem Plain.nf {u:HO} (h:Plain u):∀o z,u≠.CZ o z:=fun o z e=>by subst e;exact h
theorem XB.FE {H c:Hp}:XB (nw H c) (L2.FE H c):=fun b u d r=>by
 cases a:H b with
 |some o=>
  rcases r with r|⟨e,r⟩<;>(rw[FY a]at r;cases r)
 |none=>
  rcases r with r|⟨e,r⟩<;>rw[Al a]at r
  ·exact Kk r d.nf
  ·exact Yx a r
theorem Wn.of {G H:Hp} (p:XB G H) (d:Nat):Wn G d 0 H:=fun b u t e r v z=>⟨u,p b u e r,by
 cases u with
 |lst a=>have:=Wo.lst (c:=0) a 0 (Nat.le_refl _);simpa using this
 |tup a=>exact .tup a
 |dK kvs=>exact .BM _ _ (.refl kvs)
 |_=>exact absurd e id⟩
theorem Hy.out {G a H c:Hp} {d:Nat} (f:Hy G d H c) (s:AG a H) (o:∀b x,a b=some x->G b=none):AG a c:=fun b x e=>by
 rcases f b x (s b x e)with h|⟨u,t,_,r,_⟩
 ·exact h
 ·have:=o b x e
  rcases r with r|⟨_,r⟩<;>rw[this]at r<;>cases r
theorem Val.word {H:Hp} {v:V} {a:Ak} (h:Val H v a.pt):∃(t:Addr) (rest:List V),v=.ref t/\Bj K H t (.str a.word::rest):=by
 obtain⟨c,i,rest,rfl,e,f⟩:=h.ak
 rcases f with⟨rfl,rfl,rfl⟩|⟨d,u,rfl,rfl,rfl,b⟩|⟨g,m,u,rfl,rfl,rfl,b⟩|⟨j,g,k,m,u,z,rfl,rfl,rfl,b,l⟩
 ·exact⟨c,_,rfl,e⟩
 ·exact⟨c,_,rfl,e⟩
 ·exact⟨c,_,rfl,e⟩
 ·exact⟨c,_,rfl,e⟩
theorem Ak.kinds {G:Hp} {v:V} {g:Ak} (s:Val G v g.pt) (b:g.Bu) (e:g.Pb) {n:Nat} (i:g.deep<=n+1) (r:g.size<=900):∃(j:Addr) (f:Str) (rest:List V),v=.ref j/\Bj K G j (.str f::rest)/\
  ((f="any"/\rest=[])∨(f="just"/\∃u,rest=[u])∨∃(xs:List Ak) (m:Bool),Ak.NY xs/\Ak.Es xs/\Ak.AW xs<=n/\Ak.AI xs<=900/\(m=true∨Ak.CI xs=none)/\OD (.str f::rest) (-1)=some (.bl m)/\
   ((f="row"/\∃(a:Addr) (vs:List V),rest=[.ref a,.bl m]/\Rd G a (.lst vs)/\Aa G vs (Ak.D' xs))∨(f="table"/\∃(a:Addr) (kvs:List (Key×V)) (ks:List Str) (k:Addr) (ls:List Str),rest=[.ref a,.ref k,.bl m]/\Rd G a (.dK kvs)/\kvs.map (·.1)=ks.map Sum.inr/\Aa G (kvs.map (·.2)) (Ak.D' xs)/\Rd G k (.lst (ls.map V.str))/\((m=true/\ls.length<=60/\ls.Nodup/\sortedS ls=true)∨(m=false/\ls=[]))/\∀l∈ls,l∉ks))):=by
 obtain⟨j,f,rest,rfl,t,w⟩:=s.ak
 refine⟨j,f,rest,rfl,t,?_⟩
 rcases w with⟨rfl,rfl,rfl⟩|⟨d,u,rfl,rfl,rfl,c⟩|⟨xs,m,u,rfl,rfl,rfl,c⟩|⟨ks,xs,ls,m,u,z,rfl,rfl,rfl,c,x⟩
 ·exact .inl ⟨rfl,rfl⟩
 ·exact .inr (.inl ⟨rfl,_,rfl⟩)
 ·simp only[Ak.Bu]at b
  simp only[Ak.Pb]at e
  simp only[Ak.deep]at i
  simp only[Ak.size]at r
  obtain⟨a,vs,rfl,o,p⟩:=c.gK
  exact .inr (.inr ⟨xs,m,e.2,b,by lia,by lia,e.1,rfl,.inl ⟨rfl,a,vs,rfl,o,p⟩⟩)
 ·simp only[Ak.Bu]at b
  simp only[Ak.Pb]at e
  simp only[Ak.deep]at i
  simp only[Ak.size]at r
  obtain⟨a,kvs,rfl,o,q,p⟩:=c.lT
  obtain⟨k,B,rfl,y,A⟩:=x.gK
  have:=Et A
  subst this
  exact .inr (.inr ⟨xs,m,e.2.2,b.2.2.2.2.2.2,by lia,by lia,e.1.imp (fun h=>h.1) (fun h=>h.2.2),rfl,.inr ⟨rfl,a,kvs,ks,k,ls,rfl,o,q,p,y,e.1.imp id (fun h=>⟨h.1,h.2.1⟩),e.2.1⟩⟩)
inductive MM {K:ACh} [BA K] (n:Nat) (vs:List V) (H:Hp) (Q:VK) (b:XK):Prop
 |mk (G:Hp) (v:V) (a:Ak) (e:vs=[v]) (d:XB G H) (f:Val G v a.pt) (g:a.Bu) (h:a.Pb) (i:a.deep<=n) (j:a.size<=900) (k:∀c,AG H c->Q (.bl true) c):MM n vs H Q b
def Fl (n:Nat):Sp:=fun a H Q E=>MM n a H Q E
end
theorem gW:bootBuiltins "set"=some (.type "set"):=by decide+kernel
section
variable{X:Cx}
def Im (v d:Addr):HO:=.ext fun h=>h.IsValuesView v d
inductive MN (x:V) (vs:List V) (H:Hp) (Q:VK):Prop
 |mk (d:Addr) (kvs:List (Key×V)) (a:x=.ref d) (b:vs=[]) (c:Rd H d (.dK kvs)) (e:∀v,H v=none->Q (.ref v) (upd H v (Im v d))):MN x vs H Q
def XC:V->List V->Hp->VK->Prop:=fun x a H Q=>MN x a H Q
theorem RX:fm X "dict.values" XC:=by
 intro pins s r H x t v u Q I g i h
 obtain⟨l,kvs,rfl,rfl,j,q⟩:=h
 cases g
 have a:=i.zero
 subst a
 obtain⟨z,m,n,p,c⟩:=(show Ay X.prog X.w H s.heap l (.dK kvs)from j.ok I.BO)
 refine call_meetsIn PySem.F.slot_dict_values c.typeIs PySem.F.entry_dict_values (PySem.F.args_dict_values_1 _) (meets_dict_values (Am X.prog X.w) l m) ⟨⟨n,c⟩,?_⟩
 have d:(s.heap.push {cls:=.type "dict_values",data:=.fields #[.ref l]}).get? s.heap.objs.size=some {cls:=.type "dict_values",data:=.fields #[.ref l]}:=Heap.get?_push_size _ rfl
 exact⟨.ref s.heap.objs.size,_,I.laid (o:=Im s.heap.objs.size l) (t':=s.toks) (fun b o e=>Heap.get?_push_of_some _ e) (Nat.le_refl _) ⟨⟨_,d,rfl,rfl⟩,⟨_,d⟩,fun y A ⟨f,z1,z2⟩ k=>⟨f,k f z1,z2⟩⟩,rfl,q _ I.fresh⟩
inductive Pf (xs:List V) (H:Hp) (Q:VK):Prop
 |mk (r:Addr) (d:Addr) (kvs:List (Key×V)) (a:xs=[.ref r]) (b:H r=some (Im r d)) (c:Rd H d (.dK kvs)) (e:∀l,H l=none->Q (.ref l) (upd H l (.lst (kvs.map (·.2))))):Pf xs H Q
def Yy:List V->Hp->VK->Prop:=fun a H Q=>Pf a H Q
theorem KV.mG {kvs:List (Key×V)} {vs:List (Key×Value)} (r:KV kvs vs):Vals (kvs.map (·.2)) (vs.map (·.2)):=by
 induction r with
 |nil=>exact .nil
 |cons h _ a=>exact .cons h.2 a
theorem JH (k:X.calm=true):BJ X (.type "list") Yy:=by
 intro pins s E H F G Q I r h
 obtain⟨e,d,kvs,rfl,l,m,q⟩:=h
 obtain⟨u,rfl,n⟩:=vals1 r
 cases n
 obtain⟨a,_⟩:=(show Ay X.prog X.w H s.heap e (Im e d)from I.BO e _ l)
 obtain⟨z,hd,g,c,o⟩:=(show Ay X.prog X.w H s.heap d (.dK kvs)from m.ok I.BO)
 obtain⟨ep,f⟩:=o.dictAt
 refine PySem.W.kdl_call (PySem.W.kdl_values (knd:=Am X.prog X.w) (kvs:=g) (ep:=ep)) (I.ok.hd k) ⟨a,f⟩ (by rw[<-c.length];exact z) fun p t b x y A i=>?_
 have B:(kvs.map (·.2)).length<=sizeLine:=by rw[List.length_map];exact z
 have C:b.toList=g.map (·.2):=PySem.W.kdl_vals_eq b.toList (by rw[Array.length_toList];exact i.1) fun j v D=>i.2 j v (by rw[<-Array.getElem?_toList];exact D)
 refine⟨.ref s.heap.objs.size,_,I.laid (t':=t) y (Nat.le_refl _) (show Ay X.prog X.w _ p _ (.lst _)from⟨B,b.toList,x,?_,by rw[Array.toArray_toList];exact A⟩),rfl,q _ I.fresh⟩
 rw[C]
 exact c.mG
end
namespace Ak
theorem XD (a:Ak):∃ps,a.pt=.tup ps:=by cases a<;>exact⟨_,rfl⟩
mutual
theorem NZ:∀a:Ak,a.deep<=a.dp
 |any=>by simp only[deep,dp];lia
 |Ac d=>by have:=Pt.De d;simp only[deep,dp];lia
 |row b _=>by have:=Km b;simp only[deep,dp];lia
 |tab _ b _ _=>by have:=Km b;simp only[deep,dp];lia
theorem Km:∀xs:List Ak,AW xs<=Ii xs
 |[]=>Nat.le_refl _
 |x::r=>by have:=NZ x;have:=Km r;simp only[AW,Ii];lia
end
theorem strs_size:∀ls:List Str,Pt.AI (ls.map Pt.str)=ls.length
 |[]=>rfl
 |x::r=>by have:=strs_size r;simp only[List.map_cons,Pt.AI,Pt.size,List.length_cons];lia
mutual
theorem Sk:∀a:Ak,a.Bu->a.pt.size<=110*a.wt
 |any,_=>by simp only[pt,wt,Pt.size,Pt.AI];lia
 |Ac d,_=>by have:=Pt.size_pos d;simp only[pt,wt,Pt.size,Pt.AI];lia
 |row b _,o=>by simp only[Bu]at o;have:=Kn b o;simp only[pt,wt,Pt.size,Pt.AI];lia
 |tab e b c _,o=>by
  simp only[Bu]at o
  have:=Kn b o.2.2.2.2.2.2
  have:=o.2.2.2.2.1
  have:=strs_size c
  simp only[pt,wt,Pt.size,Pt.AI]
  lia
theorem Kn:∀xs:List Ak,Es xs->Pt.AI (D' xs)<=110*Hv xs
 |[],_=>by simp only[D',Hv,Pt.AI];lia
 |x::r,o=>by simp only[Es]at o;have:=Sk x o.1;have:=Kn r o.2;simp only[D',Hv,Pt.AI];lia
end
end Ak
theorem AG.FE {H a:Hp} (s:AG H a):AG H (L2.FE H a):=fun b o e=>by rw[Si e];exact s b o e
theorem Sl {H a:Hp} {b:Addr} (h:L2.FE H a b=none):a b=none:=by
 cases e:a b with
 |none=>rfl
 |some u=>
  unfold L2.FE at h
  rw[e]at h
  cases c:H b with
  |some o=>rw[c]at h;cases h
  |none=>
   rw[c]at h
   cases u<;>simp at h
theorem KF.nw {K:ACh} {H a:Hp} (k:KF K (L2.FE H a)):KF K (L2.nw H a):=fun b o e=>by
 have:=Sl (k b o e)
 unfold L2.nw
 cases H b with
 |none=>exact this
 |some _=>rfl
section
variable{K:ACh} [BA K]
structure Told (H H':Hp) (v:V) (g:Ak):Prop where
 s:AG H (L2.FE H H')
 p:XB (L2.nw H H') (L2.FE H H')
 k:KF K (L2.nw H H')
 v:Val (L2.nw H H') v g.pt
theorem Told.of {H a:Hp} {v:V} {g:Ak} (s:AG H a) (h:Val (L2.nw H a) v g.pt) (k:KF K (L2.FE H a)):Told H a v g:=⟨s.FE,.FE,k.nw,h⟩
theorem Told.val {H a H2:Hp} {v:V} {g:Ak} (t:Told H a v g) (s:AG (L2.FE H a) H2):Val H2 v g.pt:=(t.p.up s).val t.v
theorem Told.out {H c a h H2:Hp} {v:V} {g:Ak} (t:Told H c v g) {d:Nat} (f:Hy (L2.nw H c) d h H2) (s:AG a h) (o:∀b x,a b=some x->H b≠none):AG a H2:=f.out s fun b x e=>by
 cases i:H b with
 |none=>exact absurd i (o b x e)
 |some y=>exact FY i
theorem Told.past {H a i j k H2:Hp} {v:V} {g:Ak} (t:Told H a v g) (m:AG (L2.FE H a) i) {d:Nat} (f:Hy (L2.nw H a) d k H2) (s:AG (L2.nw i j) k):AG (L2.nw i j) H2:=f.out s fun b x e=>by
 cases c:L2.nw H a b with
 |none=>rfl
 |some y=>
  exfalso
  have n:H b=none:=by
   cases h:H b with
   |none=>rfl
   |some z=>rw[FY h]at c;cases c
  rw[Al n]at c
  have o:L2.FE H a b≠none:=fun z=>by rw[Sl z]at c;cases c
  cases l:L2.FE H a b with
  |none=>exact o l
  |some z=>
   have:=m _ _ l
   rw[FY this]at e
   cases e
end
end L2
namespace Cg
open PySem L2
def top (i:Nat):Stmt:=PySem.Challenge.pw_patchbough_k42_good_form.main.body.getD i (.Pass ⟨0,0,0,0⟩)
abbrev DO:Stmt:=top 1
abbrev GC:Stmt:=top 2
abbrev Dj:Stmt:=top 4
abbrev EZ:Stmt:=top 5
abbrev Cw:Stmt:=top 6
abbrev GD:Stmt:=top 7
abbrev DP:Stmt:=top 10
abbrev Cf:Stmt:=top 11
abbrev GF:Stmt:=top 12
abbrev Cy:Stmt:=top 13
abbrev DQ:Stmt:=top 14
abbrev DR:Stmt:=top 15
abbrev Ea:Stmt:=top 16
abbrev Cz:Stmt:=top 17
abbrev MO:Stmt:=top 19
abbrev RY:Stmt:=top 20
abbrev IW:Stmt:=top 21
abbrev UW:Stmt:=top 22
abbrev Ko:Stmt:=top 23
abbrev Kq:Stmt:=top 24
abbrev Kr:Stmt:=top 25
abbrev RZ:Stmt:=top 26
abbrev Ks:Stmt:=top 27
abbrev Kt:Stmt:=top 28
abbrev Ex:Stmt:=top 29
abbrev Ey:Stmt:=top 30
abbrev IX:Stmt:=top 31
abbrev Na:Stmt:=top 32
inductive aM {a:Type} (b c:a->Prop):Prop
 |mk (d:a) (e:b d) (f:c d):aM b c
inductive aN {c d:Type} (e f g h i j k l m:c->d->Prop):Prop
 |mk (a:c) (b:d) (n:e a b) (o:f a b) (p:g a b) (q:h a b) (h4:i a b) (r:j a b) (s:k a b) (t:l a b) (u:m a b):aN e f g h i j k l m
inductive XE {d e f:Type} (h i j k l m n o p q g:d->e->f->Prop):Prop
 |mk (a:d) (b:e) (c:f) (s:h a b c) (t:i a b c) (u:j a b c) (v:k a b c) (h4:l a b c) (w:m a b c) (x:n a b c) (y:o a b c) (z:p a b c) (A:q a b c) (r:g a b c):XE h i j k l m n o p q g
inductive aO {a b c d:Type} (i j k l:a->b->c->d->Prop):Prop
 |mk (e:a) (f:b) (g:c) (h:d) (m:i e f g h) (n:j e f g h) (o:k e f g h) (p:l e f g h):aO i j k l
end Cg
namespace Cg
open PySem L2
section
variable{P:Program} {w:World} {K:ACh} [BA K] {mg:Str->Option Value} {base:Heap}
theorem Ku:Ax ["root","inner","found","at"] ["root","inner"] (AL DO):=⟨rfl,rfl,rfl,by decide+kernel,rfl,by decide+kernel,by decide+kernel⟩
theorem Pg {C:Addr} {j:FuncData} {f:Addr} {fd:FuncData} (F:Dp K "gathered" "gathered" DO f fd) (T:Txt mg) (kI:PySem.W.keepIn K (.ref C)=true) (bI:Binds K j ["node"] []) (GI:BX P w K mg base DH 3 C j ["node"] KY):BX P w K mg base DH 4 f fd ["root","inner"] (NF C):=by
 refine F.ok Ku (fun vs H Q E h=>?_) (fun LF A outer s H vs Q E hr h=>?_)
 ·obtain⟨G,v,t,n,rfl,sG,hv,u,d,q⟩:=h
  rfl
 ·obtain⟨G,v,t,n,rfl,sG,hv,u,d,q⟩:=h
  have nd:=Ku.nd
  have hu:=Bw hr
  have J:Aj 3 _:=hr.mono (by decide)
  refine⟨_,(AF (AX (i:=2) nd rfl (Or.inl rfl) (A' (AA (pv 0) AB)))
   (AF (AX (i:=3) nd rfl (Or.inl rfl) AD)
   (AF (Nx PassesOwn.never (AQ IZ (pv 3) (AM Ae rfl T.len PySem.boot_len (AA (pv 2) AB)) (AU _)) (AF (Ci (Gj PySem.F.plainAttrs_list PySem.F.slot_list_extend PySem.F.type_list_extend Ta (pv 2) (AA (J' (pv 1) GI J kI bI .nil AV (AA (AS (r:=CJ K) Aw (pv 2) (pv 3) (fun _ _=>rfl)) AB)) AB)))
   (AH (AX (i:=3) nd rfl (Or.inl rfl) (AN Bp (pv 3) AD)))))
   (AH (AR (pv 2)))))),?_⟩
  refine⟨_,rfl,Bs,fun L M=>?_⟩
  have s0:=AG.new (o:=.lst [v]) M
  dsimp only[Dm,QO]
  refine SE (fun m N D=>∃(c:List V) (l:List Pt) (b:List (List Pt)) (k:Nat),N=[some v,some (.ref C),some (.ref L),some (.int (k:Int))]/\AG H D/\D L=some (.lst c)/\Aa G c l/\UL t k l b/\k<=l.length/\EX m (l.drop k)/\k+m=n)
   (n+0) ⟨[v],[t],[],0,rfl,s0,AE,.cons hv .nil,.start,by simp,.cons u .nil,by simp⟩ ?_ (fun N H Q Q' h ⟨v1,e1,v2,e2,a1,n1,e3,l1,i1,j1,e4,e5,b1,e6,q⟩=>⟨v1,e1,v2,e2,a1,n1,e3,l1,i1,j1,e4,e5,b1,e6,h _ _ q⟩)
  rintro m N D ⟨c,l,b,k,rfl,O,a,I,bf,hkl,R,hk⟩
  have le:=I.length
  refine⟨_,rfl,_,rfl,L,_,rfl,.inl (Ah.of a),_,_,rfl,rfl,_,rfl,?_⟩
  have ld:=R.len
  rw[List.length_drop]at ld
  refine VM (fun S=>?_) (fun S=>?_)
  ·have U:k<c.length:=by
    have:=of_decide_eq_true S
    omega
   obtain⟨x,hx⟩:∃x,c[k]?=some x:=⟨_,ACd U⟩
   obtain⟨tx,g,vx⟩:=I.get hx
   obtain⟨n',X,nx⟩:=gS R hk g d
   refine⟨_,rfl,.inl ⟨rfl,_,Ah.of a⟩,_,rfl,rfl,_,rfl,_,rfl,L,_,_,_,rfl,rfl,Ah.of a,Av hx,G,x,tx,n',rfl,sG.trans O,vx,nx,X,fun p Y us H2 s2 np hp y kd=>?_⟩
   obtain⟨_,lu,m',Z,B,ek⟩:=Yl R hk g kd d
   have t_:=y.length
   have xo:=B.len
   rw[List.length_drop,List.length_append]at xo
   refine⟨L,p,_,_,rfl,rfl,s2 _ _ a,hp,Ad (by omega),_,rfl,_,_,rfl,rfl,m',Z,c++Y,l++us,b++[us],k+1,rfl,(O.trans s2).put M,AE,I.append y,.next bf g kd,by rw[List.length_append];omega,B,by omega⟩
  ·have hge:c.length<=k:=by
    refine Nat.le_of_not_lt fun z=>S (decide_eq_true ?_)
    omega
   have e:k=l.length:=by omega
   subst e
   exact⟨_,rfl,q L c l b D O M a I bf (by omega)⟩
end
end Cg
namespace Cg
open PySem L2
section
variable{P:Program} {w:World} {K:ACh} [BA K] {mg:Str->Option Value} {base:Heap}
theorem Ph:Ax ["root","inner","join","found","told","end","at","start"] ["root","inner","join"] (AL GC):=⟨rfl,rfl,rfl,by decide+kernel,rfl,by decide+kernel,by decide+kernel⟩
theorem UX {Z fJ:Addr} {uA uB:FuncData} {f:Addr} {fd:FuncData} (F:Dp K "folded" "folded" GC f fd) (T:Txt mg) (g:Df P w K mg base "gathered" ["root","inner"] 4 (NF Z)) (kI:PySem.W.keepIn K (.ref Z)=true) (bI:Binds K uA ["node"] []) (GI:BX P w K mg base DH 3 Z uA ["node"] KY) (kJ:PySem.W.keepIn K (.ref fJ)=true) (bJ:Binds K uB ["asks","told"] []) (GJ:BX P w K mg base DH 5 fJ uB ["asks","told"] Kb):BX P w K mg base DH 6 f fd ["root","inner","join"] (NG Z fJ):=by
 obtain⟨N,O,k,m,t,u⟩:=g.ex
 refine F.ok Ph (fun vs H Q E h=>?_) (fun LF A outer s H vs Q E hr h=>?_)
 ·obtain⟨G,v,a,rfl,sG,hv,R,eE,q⟩:=h
  rfl
 ·obtain⟨G,v,a,rfl,sG,hv,R,eE,q⟩:=h
  have nd:=Ph.nd
  have hu:=Bw hr
  have d:Aj 4 _:=hr.mono (by first|decide|omega)
  have xp:Aj 3 _:=hr.mono (by decide)
  have xq:Aj 5 _:=hr.mono (by decide)
  refine⟨_,(AF (AX (i:=3) nd rfl (Or.inl rfl) (AK u d rfl t k m .nil AV (AA (pv 0) (AA (pv 1) AB))))
   (AF (AX (i:=4) nd rfl (Or.inl rfl) (AN VG (A' (AA MZ AB)) (AM Ae rfl T.len PySem.boot_len (AA (pv 3) AB))))
   (AF (AX (i:=5) nd rfl (Or.inl rfl) (AM Ae rfl T.len PySem.boot_len (AA (pv 3) AB)))
   (AF (DG PassesOwn.never rfl (UJ rfl T.range (AA (AN IA (AM Ae rfl T.len PySem.boot_len (AA (pv 3) AB)) AD) (AA (Rk Mb AD) (AA (Rk Mb AD) AB)))) (CP (i:=6) nd rfl (Or.inl rfl)) (AF (AX (i:=7) nd rfl (Or.inl rfl) (AN IA (pv 5) (AM Ae rfl T.len PySem.boot_len (AA (J' (pv 1) GI xp kI bI .nil AV (AA (AS (r:=CJ K) Aw (pv 3) (pv 6) (fun _ _=>rfl)) AB)) AB))))
   (AF (QQ (J' (pv 2) GJ xq kJ bJ .nil AV (AA (AS (r:=CJ K) Aw (pv 3) (pv 6) (fun _ _=>rfl)) (AA (DU (r:=X_ K) Mj (pv 4) (Dn (pv 7)) (Dn (pv 5))) AB))) (QP (pv 4) (pv 6) set_list))
   (AH (AX (i:=5) nd rfl (Or.inl rfl) (pv 7))))))
   (AH (AR (AS (r:=CJ K) Aw (pv 4) AD (fun _ _=>rfl)))))))),?_⟩
  have jb:=a.nd R
  have zs:=a.HS
  refine⟨_,rfl,_,rfl,G,v,a.pt,a.size,rfl,sG,hv,jb,by lia,fun p L l gR H1 s1 np hp vl bf l9=>?_⟩
  obtain⟨Y,c,B,rfl⟩:=Ak.WX R bf
  rw[List.length_map]at B bf l9
  have le:=vl.length
  rw[List.length_map]at le
  have cU:=B.len
  have l0:1<=Y.length:=by rw[B.eq];simp
  refine⟨Bs,fun p0 Xn=>?_⟩
  have t0:=AG.new (o:=.lst [.BV]) Xn
  have f0:upd H1 p0 (.lst [.BV]) p0=some (.lst [.BV]):=AE
  generalize upd H1 p0 (.lst [.BV])=H2 at t0 f0⊢
  refine⟨_,rfl,p,_,rfl,.inl (Ah.of (t0 _ _ hp)),p0,_,_,rfl,rfl,f0,by lia,by lia,Ad (by simp;lia),fun I J=>?_⟩
  have e1:(List.replicate ((L.length:Nat):Int).toNat [V.BV]).flatten=List.replicate L.length .BV:=by
   rw[Int.toNat_natCast]
   generalize L.length=n
   induction n with
   |zero=>rfl
   |succ n ih=>rw[List.replicate_succ,List.flatten_cons,ih];rfl
  rw[e1]
  have tT:=AG.new (o:=.lst (List.replicate L.length .BV)) J
  have fT:upd H2 I (.lst (List.replicate L.length .BV)) I=some (.lst (List.replicate L.length .BV)):=AE
  generalize upd H2 I (.lst (List.replicate L.length .BV))=H3 at tT fT⊢
  have s13:=t0.trans tT
  have S3:=s1.trans s13
  have S:=s13 _ _ hp
  have uC:H I=none:=(s1.trans t0).free J
  refine⟨_,rfl,p,_,rfl,.inl (Ah.of S),?_⟩
  refine⟨_,rfl,p,_,rfl,.inl (Ah.of S),_,_,rfl,rfl,_,rfl,_,rfl,Y.length,by rw[le],by lia,?_⟩
  refine WT (n:=Y.length) (fun i σ M=>∃(D:List V) (o6 o7:Option V),σ=[some v,some (.ref Z),some (.ref fJ),some (.ref p),some (.ref I),some (.int ((1+(c.take i).flatten.length:Nat):Int)),o6,o7]/\Bt (some I) H3 M/\M I=some (.lst D)/\Fd H3 M Y D i) ⟨_,none,none,?_,.refl,fT,⟨by simp[le],fun j x h1 h2=>?_⟩⟩ ?_ ?_
  ·rw[<-cU,List.take_length,le,B.eq,List.length_cons,Nat.add_comm]
   rfl
  ·have:=(ACe h2).1
   lia
  ·rintro i σ M hi ⟨D,o6,o7,rfl,U,hT,F⟩
   obtain⟨x,hx⟩:∃x,Y[i]?=some x:=⟨_,ACd hi⟩
   obtain⟨ks,uD⟩:∃ks,c[i]?=some ks:=⟨_,ACd (by lia)⟩
   obtain⟨b1,b2,b3,b4⟩:=B.at_ uD
   have kd:=B.kids i x ks hx uD
   obtain⟨ox,wx⟩:=B.ok x (ACg hx)
   obtain⟨y,hy,vy⟩:=vl.get' (show(Y.map Ak.pt)[i]?=some x.pt by rw[List.getElem?_map,hx];rfl)
   have aP:AG H M:=fun b o e=>U.keep b o (fun z=>by rw[<-ACf z,uC]at e;cases e) (S3 _ _ e)
   have xr:I≠p:=fun z=>by rw[z]at J;rw[t0 _ _ hp]at J;cases J
   have jc:M p=some (.lst L):=U.keep p _ (fun z=>xr (ACf z)) S
   have zx:=x.HS
   refine⟨_,rfl,_,rfl,rfl,_,rfl,_,rfl,p,_,_,_,rfl,rfl,Ah.of jc,Av hy,G,y,x.pt,x.size,rfl,sG.trans aP,vy,x.nd ox,by lia,fun pI xt us H4 s4 nI hI Yz xu=>?_⟩
   obtain⟨C,xw,eu⟩:=Ak.aH ox xu
   have ek:=xw.one kd
   subst ek
   have t_:=Yz.length
   rw[eu,List.length_map]at t_
   refine⟨pI,_,rfl,.inl (Ah.of hI),_,_,rfl,rfl,?_⟩
   have xx:(((1+(c.take (i+1)).flatten.length:Nat):Int))-((xt.length:Nat):Int)=((1+(c.take i).flatten.length:Nat):Int):=by lia
   rw[xx]
   have xy:=s4 _ _ hT
   have eF:=s4 _ _ jc
   refine⟨_,rfl,rfl,_,rfl,_,rfl,p,_,_,_,rfl,rfl,Ah.of eF,Av hy,?_⟩
   refine⟨_,rfl,_,rfl,_,rfl,_,rfl,_,rfl,I,D,rfl,Ah.of xy,fun pS uE=>?_⟩
   rw[PF D _ _ (by lia) (by rw[F.len];lia),show 1+(c.take (i+1)).flatten.length-(1+(c.take i).flatten.length)=C.length by lia]
   obtain⟨cs,g1,g2⟩:=F.slice C.length (1+(c.take i).flatten.length) (by lia) b4
   rw[b2]at g1
   have t5:=AG.new (o:=.lst ((D.drop (1+(c.take i).flatten.length)).take C.length)) uE
   have f5:upd H4 pS (.lst ((D.drop (1+(c.take i).flatten.length)).take C.length)) pS=some (.lst ((D.drop (1+(c.take i).flatten.length)).take C.length)):=AE
   generalize upd H4 pS (.lst ((D.drop (1+(c.take i).flatten.length)).take C.length))=H5 at t5 f5⊢
   have s5:=s4.trans t5
   have mH:∀b,H5 b=none->H3 b=none:=fun b h=>U.Cq b (s5.free h)
   refine⟨G,H3,y,x,pS,_,C,cs,rfl,sG.trans (aP.trans s5),vy,ox,by lia,f5,U.Cq _ (s4.free uE),mH,kd,g1,g2.up (BQ (fun b h=>h) fun b o _ h=>s5 _ _ h),fun w b H6 s6 vw gd=>?_⟩
   have X:=s5.trans s6
   have x_:=X _ _ hT
   have tl:i<D.length:=by rw[F.len];exact hi
   refine⟨_,rfl,_,rfl,I,D,_,i,rfl,rfl,x_,by unfold QX;rw[if_pos (by lia),if_pos (by lia),Int.toNat_natCast],?_⟩
   refine⟨_,rfl,?_⟩
   have uF:H3 I≠none:=by rw[fT];simp
   refine⟨D.set i w,_,_,rfl,(U.trans (.of X)).put,AE,F.set (fun b o h1 h2=>?_) hx gd (vw.up (BQ (fun b h=>h) fun b o h1 h2=>?_))⟩
   ·rw[AJ (fun z=>uF (by rw[<-z];exact h1))]
    exact X _ _ h2
   ·rw[AJ (fun z=>uF (by rw[<-z];exact h1))]
    exact h2
  ·rintro σ M ⟨D,o6,o7,rfl,U,hT,F⟩
   obtain⟨w,b,g1,g2,g3⟩:=F.val 0 a (Nat.zero_le _) (by rw[B.eq];rfl)
   refine⟨_,rfl,I,D,0,w,rfl,rfl,Ah.of hT,Av g1,q w b M (fun b o e=>U.keep b o (fun z=>by rw[<-ACf z,uC]at e;cases e) (S3 _ _ e)) (g3.up (BQ (fun b h=>S3.free h) fun b o _ h=>h)) g2⟩
end
end Cg
namespace Cg
open PySem L2
section
variable{P:Program} {w:World} {K:ACh} [BA K] {mg:Str->Option Value} {base:Heap}
theorem MP:Ax ["doc"] ["doc"] (AL Dj):=⟨rfl,rfl,rfl,by decide+kernel,rfl,by decide+kernel,by decide+kernel⟩
theorem Kv {f:Addr} {m:FuncData} (F:Dp K "steps_of" "steps_of" Dj f m) (T:Txt mg):BX P w K mg base DH 1 f m ["doc"] FV:=by
 refine F.ok MP (fun j H Q E h=>?_) (fun u A outer s H j Q E d h=>?_)
 ·obtain⟨v,t,rfl,n,hold,q⟩:=h
  rfl
 ·obtain⟨v,t,rfl,n,hold,q⟩:=h
  have nd:=MP.nd
  have B:=Bw d
  refine⟨_,(AF (Af (A_ (AM CB rfl T.isinstance AZ (AA (pv 0) (AA (BE (v:=.ty "list") rfl T.list Bv rfl) AB)))) (AH (AR (BB (GS rfl) rfl T.list Bv (AA (OY rfl T.range (AA (AM Ae rfl T.len PySem.boot_len (AA (pv 0) AB)) AB)) AB)))) AO)
   (AF (Af (A_ (AM CB rfl T.isinstance AZ (AA (pv 0) (AA (BE (v:=.ty "dict") rfl T.dict CM rfl) AB)))) (AH (AR (AM (Cn rfl) rfl T.sorted Co (AA (pv 0) AB)))) AO)
   (AH (AR (A' AB))))),?_⟩
  cases n with
  |int i=>
   refine⟨_,rfl,_,"list","int",rfl,rfl,.int i,_,rfl,As ⟨_,rfl,_,"dict","int",rfl,rfl,.int i,_,rfl,As ?_⟩⟩
   exact⟨Nat.zero_le _,fun p c=>q p [] _ (AG.new c) c AE rfl⟩
  |str x=>
   refine⟨_,rfl,_,"list","str",rfl,rfl,.str x,_,rfl,As ⟨_,rfl,_,"dict","str",rfl,rfl,.str x,_,rfl,As ?_⟩⟩
   exact⟨Nat.zero_le _,fun p c=>q p [] _ (AG.new c) c AE rfl⟩
  |bl b=>exact hold.elim
  |tup _ _=>exact hold.elim
  |@lst a j k h r=>
   have C:k.length<=900:=hold
   have e:=r.length
   refine⟨_,rfl,_,"list","list",rfl,rfl,.lst h,_,rfl,Bq ?_⟩
   refine⟨_,rfl,a,_,rfl,.inl (.inl h),_,rfl,fun r d=>?_⟩
   refine⟨r,j.length,rfl,AE,by omega,fun p c=>?_⟩
   exact q p _ _ ((AG.new d).trans (AG.new c)) ((AG.new d).free c) AE (by show _=_;rw[e])
  |@BM a kvs g k h o r=>
   have D:kvs.length=g.length:=by have:=congrArg List.length o;simpa using this
   have G:g.length=k.length/\g.length<64:=hold
   refine⟨_,rfl,_,"list","dict",rfl,rfl,.dK h,_,rfl,As ?_⟩
   refine⟨_,rfl,_,"dict","dict",rfl,rfl,.dK h,_,rfl,Bq ?_⟩
   exact⟨_,rfl,a,_,g,rfl,h,o,by omega,fun p l y z s c perm Il=>q p _ y s z c ⟨l,rfl,perm,Il⟩⟩
theorem Nb {f:Addr} {a:FuncData} (F:Dp K "steps_of" "steps_of" Dj f a) (T:Txt mg):BX P w K mg base DH 1 f a ["doc"] JQ:=(Kv F T).imp fun _ _ _ _ h=>PB h
end
end Cg
namespace Cg
open PySem L2
section
variable{P:Program} {w:World} {K:ACh} [BA K] {mg:Str->Option Value} {base:Heap}
theorem MQ:Ax ["doc"] ["doc"] (AL EZ):=⟨rfl,rfl,rfl,by decide+kernel,rfl,by decide+kernel,by decide+kernel⟩
theorem Ra {f:Addr} {fd:FuncData} (F:Dp K "inner_of" "inner_of" EZ f fd) (T:Txt mg) (d:Df P w K mg base "steps_of" ["doc"] 1 FV):BX P w K mg base DH 2 f fd ["doc"] Gx:=by
 obtain⟨J,L,m,u,z,B⟩:=d.ex
 refine F.ok MQ (fun vs H Q E h=>?_) (fun LF A outer s H vs Q E hr h=>?_)
 ·obtain⟨G,v,t,rfl,X,O,hold,q⟩:=h
  rfl
 ·obtain⟨G,v,t,rfl,X,O,hold,q⟩:=h
  have nd:=MQ.nd
  have hu:=Bw hr
  have c:Aj 1 _:=hr.mono (by first|decide|omega)
  refine⟨_,(AH (AR (BI (fv:=["doc"]) (fs:=[0]) rfl (.of (by rfl)) (Br (AK B c rfl z m u .nil AV (AA (pv 0) AB))) (fun _ _ _ _=>BR) (fun C s0 H0 fp=>(DY (AS (r:=CJ K) Aw (pv 1) (pv 0) (fun _ _=>rfl)) (CQ hu (pv 1) (pv 0) (fun _ _=>rfl))))))),?_⟩
  refine⟨_,rfl,v,t,rfl,O.up X,hold,fun p l H1 Y np S st=>?_⟩
  obtain⟨U,us,vl,kd,le,ae⟩:=O.kids hold st
  have hl':l.length<=900:=by
   cases O with
   |int i=>rw[show l=[]from st];decide
   |str i=>rw[show l=[]from st];decide
   |bl b=>exact hold.elim
   |tup _ _=>exact hold.elim
   |@lst a vs ts h r=>rw[show l=_ from st,List.length_map,List.length_range];exact hold
   |@BM a kvs ks ts h hk r=>
    obtain⟨ss,rfl,pm,so⟩:=st
    rw[List.length_map,pm.length_eq]
    have:=hold.2
    omega
  have gi:∀{i:Nat} {x:V},l[i]?=some x->l.getD i .BV=x:=fun h=>by rw[List.getD_eq_getElem?_getD,h];rfl
  refine⟨p,rfl,⟨_,Ah.of S⟩,?_⟩
  refine Cv (n:=l.length) (fun i=>l.getD i .BV) (fun i=>U.getD i .BV) (fun _=>true) (Ad (by omega)) (fun i D M N I=>⟨_,_,(AG.new I).seq (Ah.of S),ACd N⟩) (fun i D M v H' N I y=>?_)
   (fun D M I=>⟨_,(AG.new I).seq (Ah.of S),Nat.le_refl _⟩) (fun i D M R N I r=>by exact r) (fun i D M R N I _ r=>?_) (fun D I=>?_)
  ·obtain⟨e,y⟩:=y
   exact⟨(gi (y _ ((AG.new I).seq (Ah.of S)))).symm,e⟩
  ·obtain⟨x,hx⟩:∃x,U[i]?=some x:=⟨_,ACd (by rw[le];exact N)⟩
   have ex:U.getD i .BV=x:=by rw[List.getD_eq_getElem?_getD,hx];rfl
   rw[ex]at r
   have sD:=(X.trans Y).trans (AG.new (o:=.lst M) I)
   obtain⟨st,Z,g⟩:=ae i x hx
   rw[gi Z]
   rcases g with⟨a,xs,j,rfl,h,rfl,e2⟩|⟨a,kvs,k,rfl,h,rfl,e2⟩
   ·exact .inl ⟨_,rfl,_,rfl,a,_,_,_,rfl,rfl,.inl (h.up (sD _)),Av e2,r⟩
   ·refine .inr ⟨_,rfl,_,rfl,a,x,rfl,?_,r⟩
    rw[<-e2]
    exact .inl ⟨_,Sum.inr k,h.up (sD _),rfl,rfl⟩
  ·refine q D U us _ (Y.trans (AG.new I)) (Y.free I) ?_ vl kd
   rw[AE]
   congr 2
   rw[List.filter_eq_self.mpr fun _ _=>rfl]
   refine List.ext_getElem (by simp[le]) fun i h1 h2=>?_
   simp only[List.getElem_map,List.getElem_range]
   rw[List.getD_eq_getElem?_getD,ACd h2]
   rfl
end
end Cg
namespace Cg
open PySem L2
section
variable{P:Program} {w:World} {K:ACh} [BA K] {mg:Str->Option Value} {base:Heap}
theorem Io:Ax ["doc"] ["doc"] (AL Cw):=⟨rfl,rfl,rfl,by decide+kernel,rfl,by decide+kernel,by decide+kernel⟩
theorem Nc {f:Addr} {c:FuncData} (F:Dp K "outer_copy" "outer_copy" Cw f c) (T:Txt mg):BX P w K mg base DH 1 f c ["doc"] Mw:=by
 refine F.ok Io (fun e H Q E h=>?_) (fun g A outer s H e Q E i h=>?_)
 ·obtain⟨d,rfl,b,q⟩:=h
  rfl
 ·obtain⟨d,rfl,b,q⟩:=h
  have nd:=Io.nd
  have k:=Bw i
  refine⟨_,(AF (Af (A_ (AM CB rfl T.isinstance AZ (AA (pv 0) (AA (BE (v:=.ty "list") rfl T.list Bv rfl) AB)))) (AH (AR (BB Ck rfl T.list Bv (AA (pv 0) AB)))) AO)
   (AF (Af (A_ (AM CB rfl T.isinstance AZ (AA (pv 0) (AA (BE (v:=.ty "dict") rfl T.dict CM rfl) AB)))) (AH (AR (BB DZ rfl T.dict CM (AA (pv 0) AB)))) AO)
   (AH (AR (pv 0))))),?_⟩
  cases d with
  |leaf v=>
   refine⟨_,rfl,_,"list",Dc.Uk (.leaf v),rfl,rfl,Dc.Zx b,_,rfl,BK (by cases v<;>rfl) ?_⟩
   refine⟨_,rfl,_,"dict",Dc.Uk (.leaf v),rfl,rfl,Dc.Zx b,_,rfl,BK (by cases v<;>rfl) ?_⟩
   exact⟨_,rfl,q⟩
  |row a j=>
   refine⟨_,rfl,_,"list",_,rfl,rfl,Dc.Zx b,_,rfl,Bl rfl ?_⟩
   simp only[Dc.At]at b
   exact⟨_,rfl,a,_,rfl,.inl (.inl b.1),q⟩
  |tab a l j=>
   refine⟨_,rfl,_,"list",_,rfl,rfl,Dc.Zx b,_,rfl,BK rfl ?_⟩
   refine⟨_,rfl,_,"dict",_,rfl,rfl,Dc.Zx b,_,rfl,Bl rfl ?_⟩
   simp only[Dc.At]at b
   exact⟨_,rfl,a,_,rfl,b.1,q⟩
end
end Cg
namespace Cg
open PySem L2
section
variable{P:Program} {w:World} {K:ACh} [BA K] {mg:Str->Option Value} {base:Heap}
theorem Pj:Ax ["doc","told","waiting","part","steps","step"] ["doc"] (AL GD):=⟨rfl,rfl,rfl,by decide+kernel,rfl,by decide+kernel,by decide+kernel⟩
theorem UY {f:Addr} {fd:FuncData} (F:Dp K "copy_of" "copy_of" GD f fd) (T:Txt mg) (XF:Df P w K mg base "steps_of" ["doc"] 1 JQ) (Rb:Df P w K mg base "outer_copy" ["doc"] 1 Mw):BX P w K mg base DH 2 f fd ["doc"] Gu:=by
 obtain⟨gX,gY,XG,XH,XI,XJ⟩:=XF.ex
 obtain⟨cV,cW,G,I,J,M⟩:=Rb.ex
 refine F.ok Pj (fun Z H Q E h=>?_) (fun LF A outer s H Z Q E hr h=>?_)
 ·obtain⟨d,rfl,gZ,uG,hsz,q⟩:=h
  rfl
 ·obtain⟨d,rfl,gZ,uG,hsz,q⟩:=h
  have nd:=Pj.nd
  have hu:=Bw hr
  have UZ:Aj 1 _:=hr.mono (by first|decide|omega)
  have n:Aj 1 _:=hr.mono (by first|decide|omega)
  refine⟨_,(AF (AX (i:=1) nd rfl (Or.inl rfl) (AK M n rfl J G I .nil AV (AA (pv 0) AB)))
   (AF (AX (i:=2) nd rfl (Or.inl rfl) (A' (AA (pv 1) AB)))
   (AF (Nx PassesOwn.never (U_ (pv 2) (fun _=>rfl)) (AF (AX (i:=3) nd rfl (Or.inl rfl) (VF PySem.F.plainAttrs_list PySem.F.slot_list_pop PySem.F.type_list_pop bM (pv 2)))
   (AF (AX (i:=4) nd rfl (Or.inl rfl) (AK XJ UZ rfl XI XG XH .nil AV (AA (pv 3) AB)))
   (AH (DG PassesOwn.never rfl (Br (pv 4)) (CP (i:=5) nd rfl (Or.inl rfl)) (AF (Qr (QQ (AK M n rfl J G I .nil AV (AA (DY (AS (r:=CJ K) Aw (pv 3) (pv 5) (fun _ _=>rfl)) (CQ hu (pv 3) (pv 5) (fun _ _=>rfl))) AB)) (QP (pv 3) (pv 5) set_list)) (Fp hu (pv 3) (pv 5) (AK M n rfl J G I .nil AV (AA (DY (AS (r:=CJ K) Aw (pv 3) (pv 5) (fun _ _=>rfl)) (CQ hu (pv 3) (pv 5) (fun _ _=>rfl))) AB)) rfl))
   (AH (Ci (Gj PySem.F.plainAttrs_list PySem.F.slot_list_append PySem.F.type_list_append EG (pv 2) (AA (DY (AS (r:=CJ K) Aw (pv 3) (pv 5) (fun _ _=>rfl)) (CQ hu (pv 3) (pv 5) (fun _ _=>rfl))) AB))))))))))
   (AH (AR (pv 1)))))),?_⟩
  refine⟨_,rfl,d,rfl,gZ,IH.of (AG.refl H) gZ fun tv X si oi fi=>?_⟩
  refine⟨_,rfl,Bs,fun L hL=>?_⟩
  have sL:=AG.new (o:=.lst [tv]) hL
  have nL:H L=none:=si.free hL
  have uH:tv≠.ref L:=fun z=>(T_ gZ oi z) hL
  have C0:ER H (upd X L (.lst [tv])) L tv d [(tv,d)]:=ER.start (si.trans sL) nL AE (oi.up fun a e u h=>sL _ _ h) gZ uG uH
  dsimp only[Dm,QO]
  refine SE (fun m σ Hw=>aO (fun(ps:List (V×Dc)) (o3 o4 B:Option V)=>σ=[some d.val,some tv,some (.ref L),o3,o4,B]) (fun(ps:List (V×Dc)) (o3 o4 B:Option V)=>ER H Hw L tv d ps) (fun(ps:List (V×Dc)) (o3 o4 B:Option V)=>Dc.AI (ps.map (·.2))<=d.size) (fun(ps:List (V×Dc)) (o3 o4 B:Option V)=>m=Dc.AI (ps.map (·.2))))
   (Dc.AI [d]) ⟨[(tv,d)],none,none,none,rfl,C0,by simp[Dc.AI],rfl⟩ ?_ (fun σ H Q Q' h ⟨v,e,k,t,q⟩=>⟨v,e,k,t,h _ _ q⟩)
  rintro m σ Hw ⟨ps,o3,o4,B,rfl,C,hm,rfl⟩
  refine⟨_,rfl,_,.inl ⟨_,Ah.of C.eL,rfl⟩,?_⟩
  by_cases YQ:ps=[]
  ·subst YQ
   refine As ⟨_,rfl,?_⟩
   obtain⟨e,ev,el,ef⟩:=C.done
   rw[<-ev]
   exact q e Hw ef el
  obtain⟨R,p,rfl⟩:∃R p,ps=R++[p]:=⟨ps.dropLast,ps.getLast YQ,(List.dropLast_concat_getLast YQ).symm⟩
  obtain⟨v,node⟩:=p
  refine Bl (by simp) ?_
  have mI:Dc.AI ((R++[(v,node)]).map (·.2))=Dc.AI (R.map (·.2))+node.size:=by rw[List.map_append,Dc.Ai];simp[Dc.AI]
  have uI:=C.eL
  refine⟨_,rfl,.inl ⟨rfl,_,Ah.of uI⟩,L,_,v,rfl,rfl,uI,by simp,?_⟩
  have dl:(List.map (·.1) (R++[(v,node)])).dropLast=R.map (·.1):=by rw[List.map_append];simp
  rw[dl]
  obtain⟨nat,eG⟩:=C.src (v,node) (by simp)
  have on:=C.out (v,node) (by simp)
  have s1:AG H (upd Hw L (.lst (R.map (·.1)))):=C.same.put nL
  have lq:R.length<=Dc.AI (R.map (·.2)):=by have:=Dc.Cm (R.map (·.2));rw[List.length_map]at this;exact this
  cases node with
  |leaf v'=>
   obtain⟨rfl,lv⟩:=(show v=v'/\Dc.Lf v' from on)
   refine⟨_,rfl,.leaf v,rfl,lv,trivial,by simp[Dc.size],fun p l H2 s2 np hp st=>?_⟩
   cases(show l=[]from st)
   refine⟨_,rfl,p,rfl,⟨_,Ah.of hp⟩,FH (xs:=[]) (fun i σ X=>aM (fun B=>σ=[some d.val,some tv,some (.ref L),some v,some (.ref p),B]) (fun B=>X=H2)) ⟨_,rfl,rfl⟩ (fun i σ X _ ⟨_,_,e⟩=>by rw[e];exact Ah.of hp) (fun i x σ X hx=>by simp at hx) ?_⟩
   rintro σ X ⟨B,rfl,rfl⟩
   refine⟨Dc.AI (R.map (·.2)),by rw[mI];simp only[Dc.size];lia,R,_,_,_,rfl,C.leaf (fun b o hb h=>s2 _ _ (by rw[AJ hb];exact h)) (s2 _ _ AE),by lia,rfl⟩
  |row b xs=>
   obtain⟨a,rfl,ea,na⟩:=(show∃a,v=.ref a/\Hw a=some (.lst (xs.map Dc.val))/\H a=none from on)
   have aL:a≠L:=fun z=>C.Tz (by rw[<-z];exact Bg.mpr ⟨(.ref a,.row b xs),by simp,rfl⟩)
   have cX:upd Hw L (.lst (R.map (·.1))) a=some (.lst (xs.map Dc.val)):=by rw[AJ aL];exact ea
   have Rc:=nat
   simp only[Dc.At]at Rc
   simp only[Dc.slim]at eG
   simp only[Dc.size]at mI
   have lx:=Dc.Cm xs
   refine⟨_,rfl,.row a xs,rfl,?_,by simp only[Dc.slim];exact eG,by simp only[Dc.size];lia,fun p l H2 s2 np hp st=>?_⟩
   ·simp only[Dc.At]
    exact⟨.inl cX,Dc.EM xs (fun c _ o e=>s1 c o e) Rc.2⟩
   cases(show l=(List.range xs.length).map fun(i:Nat)=>V.int (i:Int)from st)
   have mJ:=s1.trans s2
   have gb:=s2 _ _ cX
   have cY:H2 L=some (.lst (R.map (·.1))):=s2 _ _ AE
   have ll:((List.range xs.length).map fun(i:Nat)=>V.int (i:Int)).length=xs.length:=by simp
   have pa:p≠a:=Ne.symm (Ab cX np)
   have pL:p≠L:=Ne.symm (Ab (AE (H:=Hw) (a:=L) (o:=.lst (R.map (·.1)))) np)
   refine⟨_,rfl,p,rfl,⟨_,Ah.of hp⟩,FH (xs:=(List.range xs.length).map fun(i:Nat)=>V.int (i:Int)) (fun i σ X=>aN (fun(g:List V) (B:Option V)=>σ=[some d.val,some tv,some (.ref L),some (.ref a),some (.ref p),B]) (fun(g:List V) (B:Option V)=>g.length=i) (fun(g:List V) (B:Option V)=>i<=xs.length) (fun(g:List V) (B:Option V)=>X a=some (.lst (g++(xs.drop i).map Dc.val))) (fun(g:List V) (B:Option V)=>X L=some (.lst (R.map (·.1)++g))) (fun(g:List V) (B:Option V)=>(∀(j:Nat) c x,g[j]?=some c->xs[j]?=some x->FT H X c x)) (fun(g:List V) (B:Option V)=>(∀b o,b≠a->b≠L->H2 b=some o->X b=some o)) (fun(g:List V) (B:Option V)=>(roots (g.zip xs)).Nodup) (fun(g:List V) (B:Option V)=>∀c∈roots (g.zip xs),H2 c=none))
    ⟨[],_,rfl,rfl,Nat.zero_le _,by rw[gb];rfl,by rw[cY,List.append_nil],fun j c x h=>by simp at h,fun b o _ _ h=>h,by simp[roots],by simp[roots]⟩ (fun i σ X _ ⟨g,B,_,_,_,_,_,_,kp,_,_⟩=>Ah.of (kp p _ pa pL hp)) ?_ ?_⟩
   ·rintro i sv σ X cZ ⟨g,B,rfl,lc,mK,N,Y_,oc,kp,rn,rf⟩
    have hi:i<xs.length:=by have:=(ACe cZ).1;rw[ll]at this;exact this
    have mL:sv=.int (i:Int):=by rw[List.getElem?_map,List.getElem?_range hi]at cZ;exact(ACf cZ).symm
    subst mL
    obtain⟨x,hx⟩:∃x,xs[i]?=some x:=⟨_,ACd hi⟩
    have mM:=ACg hx
    have aP:AG H X:=fun b o e=>kp b o (Ab e na) (Ab e nL) (mJ b o e)
    have dr:xs.drop i=x::xs.drop (i+1):=by rw[List.drop_eq_getElem_cons hi];rw[ACd hi]at hx;rw[ACf hx]
    have gc:x.At X:=Dc.Ry aP (Dc.Ft Rc.2 x mM)
    have Eb:OD (g++(xs.drop i).map Dc.val) (i:Int)=some x.val:=Av (by rw[dr,List.getElem?_append_right (by lia),lc,Nat.sub_self];rfl)
    refine .inl (.inl ⟨_,rfl,_,rfl,a,_,_,_,rfl,rfl,Ah.of N,Eb,x,rfl,gc,IH.of aP gc fun c Hc sc mN fc=>?_⟩)
    have mO:=sc _ _ N
    have hlen:(g++(xs.drop i).map Dc.val).length=xs.length:=by rw[List.length_append,List.length_map,List.length_drop];lia
    refine⟨_,rfl,_,rfl,a,_,_,i,rfl,rfl,mO,by unfold QX;rw[if_pos (by lia),if_pos (by rw[hlen];lia),Int.toNat_natCast],?_⟩
    have mP:(g++(xs.drop i).map Dc.val).set i c=(g++[c])++(xs.drop (i+1)).map Dc.val:=by
     rw[dr,List.map_cons,List.set_append_right _ _ (by lia),lc,Nat.sub_self,List.set_cons_zero,List.append_assoc]
     rfl
    rw[mP]
    have cL:∀S,c=.ref S->S≠a/\S≠L:=fun S e=>⟨(fun z=>by have:=fc S e;rw[z,N]at this;cases this),(fun z=>by have:=fc S e;rw[z,Y_]at this;cases this)⟩
    have gh:upd Hc a (.lst ((g++[c])++(xs.drop (i+1)).map Dc.val)) L=some (.lst (R.map (·.1)++g)):=by rw[AJ (Ne.symm aL)];exact sc _ _ Y_
    refine⟨_,rfl,.inl ⟨rfl,_,Ah.of gh⟩,.inl ⟨_,rfl,_,rfl,a,_,_,c,rfl,rfl,Ah.of AE,Av (by rw[List.getElem?_append_left (by rw[List.length_append,lc];simp),List.getElem?_append_right (by lia),lc,Nat.sub_self];rfl),?_⟩⟩
    refine⟨L,_,_,rfl,rfl,gh,BN (by simp only[List.length_append,List.length_map];lia),g++[c],_,rfl,by simp[lc],hi,by rw[AJ aL];exact AE,by rw[AE,List.append_assoc],fun j U x' D O=>?_,fun b' o D O h3=>?_,?_,fun U Y=>?_⟩
    ·have base:∀{U:V} {x':Dc},FT H Hc U x'->(∀S,U=.ref S->S≠a/\S≠L)->FT H (upd (upd Hc a (.lst ((g++[c])++(xs.drop (i+1)).map Dc.val))) L (.lst ((R.map (·.1)++g)++[c]))) U x':=fun o cb=>o.up fun S e u h=>by
      obtain⟨g1,g2⟩:=cb S e
      rw[AJ g2,AJ g1]
      exact h
     by_cases mQ:j<g.length
     ·rw[List.getElem?_append_left mQ]at D
      refine base ((oc j U x' D O).up fun S e u h=>sc _ _ h) fun S e=>?_
      have hz:(g.zip xs)[j]?=some (U,x'):=by rw[List.getElem?_zip_eq_some];exact⟨D,O⟩
      have hr:=rf S (Bg.mpr ⟨(U,x'),ACg hz,e⟩)
      exact⟨(fun z=>by rw[z,gb]at hr;cases hr),(fun z=>by rw[z,cY]at hr;cases hr)⟩
     ·have hl:=(ACe D).1
      rw[List.length_append,List.length_singleton]at hl
      have ej:j=i:=by lia
      subst ej
      rw[List.getElem?_append_right (by lia),lc,Nat.sub_self]at D
      have e1:c=U:=by simpa using D
      subst e1
      rw[hx]at O
      cases O
      exact base mN cL
    ·rw[AJ O,AJ D]
     exact sc _ _ (kp b' o D O h3)
    ·have ez:(g++[c]).zip xs=g.zip xs++[(c,x)]:=Gv lc hx
     rw[ez,BS]
     refine List.nodup_append.mpr ⟨rn,by cases c<;>first|exact List.nodup_nil|exact List.nodup_cons.mpr ⟨(fun h=>nomatch h),List.nodup_nil⟩,fun y hy z hz e=>?_⟩
     subst e
     obtain⟨p',cc,e'⟩:=Bg.mp hz
     rw[List.mem_singleton.mp cc]at e'
     obtain⟨⟨c2,x2⟩,JI,e2⟩:=Bg.mp hy
     obtain⟨j,hj,ej⟩:=List.mem_iff_getElem.mp JI
     have bh:(g.zip xs)[j]?=some (c2,x2):=by rw[ACd hj,ej]
     obtain⟨g1,g2⟩:=List.getElem?_zip_eq_some.mp bh
     exact((oc j c2 x2 g1 g2).root (p:=(c2,x2)) e2).1 (fc y e')
    ·have ez:(g++[c]).zip xs=g.zip xs++[(c,x)]:=Gv lc hx
     rw[ez,BS]at Y
     rcases List.mem_append.mp Y with Y|Y
     ·exact rf U Y
     ·obtain⟨p',cc,e'⟩:=Bg.mp Y
      rw[List.mem_singleton.mp cc]at e'
      have h0:=fc U e'
      cases q2:H2 U with
      |none=>rfl
      |some o=>
       have:=kp U o (cL U e').1 (cL U e').2 q2
       rw[h0]at this
       cases this
   ·rintro σ X ⟨g,B,rfl,lc,mK,N,Y_,oc,kp,rn,rf⟩
    rw[ll]at lc N
    rw[List.drop_length,List.map_nil,List.append_nil]at N
    have mz:(g.zip xs).map (·.1)=g:=List.map_fst_zip (by lia)
    have gj:(g.zip xs).map (·.2)=xs:=List.map_snd_zip (by lia)
    have gm:∀p∈g.zip xs,∃j:Nat,g[j]?=some p.1/\xs[j]?=some p.2:=fun p hp=>by
     obtain⟨j,hj,e⟩:=List.mem_iff_getElem.mp hp
     exact⟨j,List.getElem?_zip_eq_some.mp (by rw[ACd hj,e])⟩
    have gn:∀b o,b≠L->Hw b=some o->H2 b=some o:=fun b o hb h=>s2 _ _ (by rw[AJ hb];exact h)
    have C2:=C.step (H2:=X) (g.zip xs) (fun b' o D O h3=>kp b' o D O (gn b' o O h3)) (by rw[Y_,List.map_append,mz]) (fun p hp=>let⟨j,g1,g2⟩:=gm p hp;oc j _ _ g1 g2)
     (fun p hp=>let⟨j,g1,g2⟩:=gm p hp;⟨Dc.Ft Rc.2 _ (ACg g2),Dc.IF eG _ (ACg g2)⟩) rn
     (fun c hc=>by
      cases q2:Hw c with
      |none=>rfl
      |some o=>
       have h0:=rf c hc
       by_cases gp:c=L
       ·rw[gp,cY]at h0;cases h0
       ·rw[gn c o gp q2]at h0;cases h0) (by rw[N];simp) (fun ob u z=>by rw[N]at z;cases z)
     (fun ec H' dn at' mR=>⟨.row a ec,rfl,by simp only[Dc.Dd];have:=dn.Vx;rw[gj]at this;exact this,by
      simp only[Dc.At]
      refine⟨.inl ?_,at'⟩
      rw[mR,N,dn.vals,mz],by simp only[Dc.addrs];exact .refl _⟩)
    have mS:Dc.AI ((R++g.zip xs).map (·.2))=Dc.AI (R.map (·.2))+Dc.AI xs:=by rw[List.map_append,Dc.Ai,gj]
    exact⟨Dc.AI ((R++g.zip xs).map (·.2)),by lia,R++g.zip xs,_,_,_,rfl,C2,by lia,rfl⟩
  |tab b ks xs=>
   obtain⟨a,rfl,ea,na⟩:=(show∃a,v=.ref a/\Hw a=some (.dK (Dc.kvs ks xs))/\H a=none from on)
   have aL:a≠L:=fun z=>C.Tz (by rw[<-z];exact Bg.mpr ⟨(.ref a,.tab b ks xs),by simp,rfl⟩)
   have cX:upd Hw L (.lst (R.map (·.1))) a=some (.dK (Dc.kvs ks xs)):=by rw[AJ aL];exact ea
   have Rc:=nat
   simp only[Dc.At]at Rc
   simp only[Dc.slim]at eG
   simp only[Dc.size]at mI
   obtain⟨_,jd,knd,cf⟩:=Rc
   have lx:=Dc.Cm xs
   refine⟨_,rfl,.tab a ks xs,rfl,?_,by simp only[Dc.slim];exact eG,by simp only[Dc.size];lia,fun p l H2 s2 np hp st=>?_⟩
   ·simp only[Dc.At]
    exact⟨.inl cX,jd,knd,Dc.EM xs (fun c _ o e=>s1 c o e) cf⟩
   obtain⟨ss,rfl,perm,_⟩:=(show∃ss:List Str,l=ss.map V.str/\ss.Perm ks/\PyProof.Rows.sortedS ss=true from st)
   have snd:ss.Nodup:=perm.nodup_iff.mpr knd
   have sl:=perm.length_eq
   obtain⟨ys,yp,yl,uJ⟩:=reorder (ks:=ss) (ss:=ks) (ec:=xs) perm.symm knd jd.symm
   have mJ:=s1.trans s2
   have gb:=s2 _ _ cX
   have cY:H2 L=some (.lst (R.map (·.1))):=s2 _ _ AE
   have ll:(ss.map V.str).length=ss.length:=List.length_map ..
   have pa:p≠a:=Ne.symm (Ab cX np)
   have pL:p≠L:=Ne.symm (Ab (AE (H:=Hw) (a:=L) (o:=.lst (R.map (·.1)))) np)
   have pos:∀(j:Nat) k,ks[j]?=some k->∃t,ss[t]?=some k:=fun j k h=>List.mem_iff_getElem?.mp (perm.mem_iff.mpr (ACg h))
   have pos':∀(t:Nat) k,ss[t]?=some k->∃j,ks[j]?=some k:=fun t k h=>List.mem_iff_getElem?.mp (perm.mem_iff.mp (ACg h))
   refine⟨_,rfl,p,rfl,⟨_,Ah.of hp⟩,FH (xs:=ss.map V.str) (fun i σ X=>XE (fun(g Z:List V) (B:Option V)=>σ=[some d.val,some tv,some (.ref L),some (.ref a),some (.ref p),B]) (fun(g Z:List V) (B:Option V)=>g.length=i) (fun(g Z:List V) (B:Option V)=>i<=ss.length) (fun(g Z:List V) (B:Option V)=>ks.length=Z.length) (fun(g Z:List V) (B:Option V)=>X a=some (.dK (D_ ks Z))) (fun(g Z:List V) (B:Option V)=>X L=some (.lst (R.map (·.1)++g))) (fun(g Z:List V) (B:Option V)=>(∀(j t:Nat) k,ks[j]?=some k->ss[t]?=some k->Z[j]?=if t<i then g[t]? else(ys[t]?).map Dc.val)) (fun(g Z:List V) (B:Option V)=>(∀(j:Nat) c x,g[j]?=some c->ys[j]?=some x->FT H X c x)) (fun(g Z:List V) (B:Option V)=>(∀b o,b≠a->b≠L->H2 b=some o->X b=some o)) (fun(g Z:List V) (B:Option V)=>(roots (g.zip ys)).Nodup) (fun(g Z:List V) (B:Option V)=>∀c∈roots (g.zip ys),H2 c=none))
    ⟨[],xs.map Dc.val,_,rfl,rfl,Nat.zero_le _,by rw[List.length_map];exact jd,gb,by rw[cY,List.append_nil],fun j t k D O=>by rw[if_neg (Nat.not_lt_zero _),uJ t j k O D,List.getElem?_map],fun j c x h=>by simp at h,fun b o _ _ h=>h,by simp[roots],by simp[roots]⟩
    (fun i σ X _ ⟨g,Z,B,_,_,_,_,_,_,_,_,kp,_,_⟩=>Ah.of (kp p _ pa pL hp)) ?_ ?_⟩
   ·rintro i sv σ X cZ ⟨g,Z,B,rfl,lc,mK,lv,N,Y_,gq,oc,kp,rn,rf⟩
    have hi:i<ss.length:=by have:=(ACe cZ).1;rw[ll]at this;exact this
    obtain⟨k,hk⟩:∃k,ss[i]?=some k:=⟨_,ACd hi⟩
    have mL:sv=.str k:=by rw[List.getElem?_map,hk]at cZ;exact(ACf cZ).symm
    subst mL
    obtain⟨j,hj⟩:=pos' i k hk
    obtain⟨x,hx⟩:∃x,ys[i]?=some x:=⟨_,ACd (by rw[yl];exact hi)⟩
    have mM:x∈xs:=yp.mem_iff.mp (ACg hx)
    have aP:AG H X:=fun b o e=>kp b o (Ab e na) (Ab e nL) (mJ b o e)
    have gc:x.At X:=Dc.Ry aP (Dc.Ft cf x mM)
    have uK:j<Z.length:=by rw[<-lv];exact(ACe hj).1
    have vj:Z[j]?=some x.val:=by rw[gq j i k hj hk,if_neg (Nat.lt_irrefl _),hx];rfl
    have dg:∀{Hx:Hp} {ws:List V} {y:V},Hx a=some (.dK (D_ ks ws))->ks.length=ws.length->ws[j]?=some y->OK Hx a (.str k) (some y):=fun D O h3=>.inl ⟨_,Sum.inr k,.inl D,rfl,by rw[J_ O knd hj,h3]⟩
    refine .inr (.inr ⟨_,rfl,_,rfl,a,x.val,rfl,dg N lv vj,x,rfl,gc,IH.of aP gc fun c Hc sc mN fc=>?_⟩)
    have mO:=sc _ _ N
    refine⟨_,rfl,_,rfl,a,_,rfl,Tc.k (k:=Sum.inr k) mO (BN (by rw[Vy lv];lia)),?_⟩
    rw[Vz lv knd hj c]
    have gr:ks.length=(Z.set j c).length:=by rw[List.length_set];exact lv
    have cL:∀S,c=.ref S->S≠a/\S≠L:=fun S e=>⟨(fun z=>by have:=fc S e;rw[z,N]at this;cases this),(fun z=>by have:=fc S e;rw[z,Y_]at this;cases this)⟩
    have gh:upd Hc a (.dK (D_ ks (Z.set j c))) L=some (.lst (R.map (·.1)++g)):=by rw[AJ (Ne.symm aL)];exact sc _ _ Y_
    refine⟨_,rfl,.inl ⟨rfl,_,Ah.of gh⟩,.inr ⟨_,rfl,_,rfl,a,c,rfl,dg AE gr (by rw[List.getElem?_set_self uK]),?_⟩⟩
    refine⟨L,_,_,rfl,rfl,gh,BN (by simp only[List.length_append,List.length_map];lia),g++[c],Z.set j c,_,rfl,by simp[lc],hi,gr,by rw[AJ aL];exact AE,by rw[AE,List.append_assoc],fun j' t' k' D O=>?_,fun j' U x' D O=>?_,fun b' o D O h3=>?_,?_,fun U Y=>?_⟩
    ·by_cases Ul:j'=j
     ·subst Ul
      rw[hj]at D
      cases D
      have et:t'=i:=(List.getElem?_inj (by exact(ACe O).1) snd).mp (by rw[O,hk])
      subst et
      rw[List.getElem?_set_self uK,if_pos (Nat.lt_succ_self _),List.getElem?_append_right (by lia),lc,Nat.sub_self]
      rfl
     ·have yA:k'≠k:=fun z=>Ul ((List.getElem?_inj (by exact(ACe D).1) knd).mp (by rw[D,hj,z]))
      have uH:t'≠i:=fun z=>yA (by rw[z,hk]at O;exact(ACf O).symm)
      rw[List.getElem?_set_ne (Ne.symm Ul),gq j' t' k' D O]
      by_cases gu:t'<i
      ·rw[if_pos gu,if_pos (by lia),List.getElem?_append_left (by lia)]
      ·rw[if_neg gu,if_neg (by lia)]
    ·have base:∀{U:V} {x':Dc},FT H Hc U x'->(∀S,U=.ref S->S≠a/\S≠L)->FT H (upd (upd Hc a (.dK (D_ ks (Z.set j c)))) L (.lst ((R.map (·.1)++g)++[c]))) U x':=fun o cb=>o.up fun S e u h=>by
      obtain⟨g1,g2⟩:=cb S e
      rw[AJ g2,AJ g1]
      exact h
     by_cases mQ:j'<g.length
     ·rw[List.getElem?_append_left mQ]at D
      refine base ((oc j' U x' D O).up fun S e u h=>sc _ _ h) fun S e=>?_
      have hz:(g.zip ys)[j']?=some (U,x'):=by rw[List.getElem?_zip_eq_some];exact⟨D,O⟩
      have hr:=rf S (Bg.mpr ⟨(U,x'),ACg hz,e⟩)
      exact⟨(fun z=>by rw[z,gb]at hr;cases hr),(fun z=>by rw[z,cY]at hr;cases hr)⟩
     ·have hl:=(ACe D).1
      rw[List.length_append,List.length_singleton]at hl
      have ej:j'=i:=by lia
      subst ej
      rw[List.getElem?_append_right (by lia),lc,Nat.sub_self]at D
      have e1:c=U:=by simpa using D
      subst e1
      rw[hx]at O
      cases O
      exact base mN cL
    ·rw[AJ O,AJ D]
     exact sc _ _ (kp b' o D O h3)
    ·have ez:(g++[c]).zip ys=g.zip ys++[(c,x)]:=Gv lc hx
     rw[ez,BS]
     refine List.nodup_append.mpr ⟨rn,by cases c<;>first|exact List.nodup_nil|exact List.nodup_cons.mpr ⟨(fun h=>nomatch h),List.nodup_nil⟩,fun y hy z hz e=>?_⟩
     subst e
     obtain⟨p',cc,e'⟩:=Bg.mp hz
     rw[List.mem_singleton.mp cc]at e'
     obtain⟨⟨c2,x2⟩,JI,e2⟩:=Bg.mp hy
     obtain⟨j2,mT,yB⟩:=List.mem_iff_getElem.mp JI
     have bh:(g.zip ys)[j2]?=some (c2,x2):=by rw[ACd mT,yB]
     obtain⟨g1,g2⟩:=List.getElem?_zip_eq_some.mp bh
     exact((oc j2 c2 x2 g1 g2).root (p:=(c2,x2)) e2).1 (fc y e')
    ·have ez:(g++[c]).zip ys=g.zip ys++[(c,x)]:=Gv lc hx
     rw[ez,BS]at Y
     rcases List.mem_append.mp Y with Y|Y
     ·exact rf U Y
     ·obtain⟨p',cc,e'⟩:=Bg.mp Y
      rw[List.mem_singleton.mp cc]at e'
      have h0:=fc U e'
      cases q2:H2 U with
      |none=>rfl
      |some o=>
       have:=kp U o (cL U e').1 (cL U e').2 q2
       rw[h0]at this
       cases this
   ·rintro σ X ⟨g,Z,B,rfl,lc,mK,lv,N,Y_,gq,oc,kp,rn,rf⟩
    rw[ll]at lc gq
    have mz:(g.zip ys).map (·.1)=g:=List.map_fst_zip (by lia)
    have gj:(g.zip ys).map (·.2)=ys:=List.map_snd_zip (by lia)
    have gm:∀p∈g.zip ys,∃j:Nat,g[j]?=some p.1/\ys[j]?=some p.2:=fun p hp=>by
     obtain⟨j,hj,e⟩:=List.mem_iff_getElem.mp hp
     exact⟨j,List.getElem?_zip_eq_some.mp (by rw[ACd hj,e])⟩
    have gn:∀b o,b≠L->Hw b=some o->H2 b=some o:=fun b o hb h=>s2 _ _ (by rw[AJ hb];exact h)
    have C2:=C.step (H2:=X) (g.zip ys) (fun b' o D O h3=>kp b' o D O (gn b' o O h3)) (by rw[Y_,List.map_append,mz]) (fun p hp=>let⟨j,g1,g2⟩:=gm p hp;oc j _ _ g1 g2)
     (fun p hp=>let⟨j,g1,g2⟩:=gm p hp;⟨Dc.Ft cf _ (yp.mem_iff.mp (ACg g2)),Dc.IF eG.2 _ (yp.mem_iff.mp (ACg g2))⟩) rn
     (fun c hc=>by
      cases q2:Hw c with
      |none=>rfl
      |some o=>
       have h0:=rf c hc
       by_cases gp:c=L
       ·rw[gp,cY]at h0;cases h0
       ·rw[gn c o gp q2]at h0;cases h0) (by rw[N];simp) (fun ob u z=>by rw[N]at z;cases z)
     (fun ec H' dn at' mR=>by
      have dv:=dn.vals
      rw[mz]at dv
      have dk:=dn.Vx
      rw[gj]at dk
      have el:ec.length=ss.length:=by have:=congrArg List.length dv;rw[List.length_map]at this;lia
      obtain⟨es,ep,yC,uL⟩:=reorder perm snd el
      have ev:es.map Dc.val=Z:=by
       refine List.ext_getElem? fun j=>?_
       cases hk:ks[j]? with
       |none=>
        have D:=List.getElem?_eq_none_iff.mp hk
        rw[List.getElem?_eq_none_iff.mpr (by rw[List.length_map];lia),List.getElem?_eq_none_iff.mpr (by lia)]
       |some k=>
        obtain⟨t,ht⟩:=pos j k hk
        have tl:=(ACe ht).1
        rw[List.getElem?_map,uL j t k hk ht,gq j t k hk ht,if_pos tl,<-dv,List.getElem?_map]
      refine⟨.tab a ks es,rfl,?_,?_,?_⟩
      ·simp only[Dc.Dd]
       refine⟨trivial,Of (by lia) fun j x e D O=>?_⟩
       obtain⟨k,hk⟩:∃k,ks[j]?=some k:=⟨_,ACd (by rw[jd];exact(ACe D).1)⟩
       obtain⟨t,ht⟩:=pos j k hk
       have e1:=uJ t j k ht hk
       rw[D]at e1
       obtain⟨e',g1,g2⟩:=Dc.Lv dk t x e1
       rw[uL j t k hk ht,g1]at O
       cases O
       exact g2
      ·simp only[Dc.At]
       exact⟨.inl (by rw[mR,N,Od,ev]),yC.symm,knd,V_ ep at'⟩
      ·simp only[Dc.addrs]
       exact(Oe ep).cons _)
    have mS:Dc.AI ((R++g.zip ys).map (·.2))=Dc.AI (R.map (·.2))+Dc.AI xs:=by rw[List.map_append,Dc.Ai,gj,Dc.Ej yp]
    exact⟨Dc.AI ((R++g.zip ys).map (·.2)),by lia,R++g.zip ys,_,_,_,rfl,C2,by lia,rfl⟩
end
end Cg
namespace Cg
open PySem L2
section
variable{P:Program} {w:World} {K:ACh} [BA K] {mg:Str->Option Value} {base:Heap}
theorem Kw:Ax ["node"] ["node"] (AL DP):=⟨rfl,rfl,rfl,by decide+kernel,rfl,by decide+kernel,by decide+kernel⟩
theorem Pk {f:Addr} {k:FuncData} (F:Dp K "holder_in" "holder_in" DP f k) (T:Txt mg):BX P w K mg base DH 1 f k ["node"] ND:=by
 refine F.ok Kw (fun z H Q E h=>?_) (fun B A outer s H z Q E C h=>?_)
 ·obtain⟨G,v,t,n,rfl,l,m,a,q⟩:=h
  rfl
 ·obtain⟨G,v,t,n,rfl,l,m,a,q⟩:=h
  have nd:=Kw.nd
  have x:=Bw C
  refine⟨_,(AF (Af (AQ (Lk:Dy _ _ (fk K false)) (AS (r:=BD K) AY (pv 0) AD (fun _ _=>rfl)) (BF (AA Ag (AA Ag AB))) rfl) (AH (AR (AS (r:=BD K) AY (pv 0) AD (fun _ _=>rfl)))) AO)
   (AH (AR (A' AB)))),?_⟩
  obtain⟨y,d,rest,rfl,D,I⟩:=m.node a
  have b:=D.up l
  refine⟨_,rfl,y,_,0,.str d,rfl,rfl,b,EC,Az,fun p J=>⟨p,_,rfl,.inr (Bj.of AE),rfl,rfl,_,rfl,?_⟩⟩
  have g:=AG.new (o:=.tup [.str "row",.str "table"]) J
  have i:=b.up g
  have c:Zn (.str d) [.str "row",.str "table"]=decide (d∈(["row","table"]:List Str)):=KA d ["row","table"]
  rcases I with⟨L,M,e⟩|⟨hw,u,r,rfl,x⟩
  ·refine BK ?_ ⟨Nat.zero_le _,fun N j=>q _ _ (g.trans (AG.new j)) (.inr ⟨e,N,rfl,AE⟩)⟩
   rw[c]
   simp[L,M]
  ·refine Bl ?_ ⟨_,rfl,y,_,1,u,rfl,rfl,i,Eb,q _ _ g (.inl x)⟩
   rw[c]
   rcases hw with rfl|rfl<;>decide
end
end Cg
namespace Cg
open PySem L2
section
variable{P:Program} {w:World} {K:ACh} [BA K] {mg:Str->Option Value} {base:Heap}
theorem Hr:Ax ["node"] ["node"] (AL Cf):=⟨rfl,rfl,rfl,by decide+kernel,rfl,by decide+kernel,by decide+kernel⟩
theorem GW {f:Addr} {Y:FuncData} (F:Dp K "inner_nodes" "inner_nodes" Cf f Y) (T:Txt mg) (k:Df P w K mg base "inner_of" ["doc"] 2 Gx) (b:Df P w K mg base "holder_in" ["node"] 1 ND):BX P w K mg base DH 3 f Y ["node"] KY:=by
 obtain⟨z,B,l,m,o,r⟩:=k.ex
 obtain⟨u,x,c,d,g,i⟩:=b.ex
 refine F.ok Hr (fun vs H Q E h=>?_) (fun LF A outer s H vs Q E L h=>?_)
 ·obtain⟨G,v,t,n,rfl,M,Z,y,C,q⟩:=h
  rfl
 ·obtain⟨G,v,t,n,rfl,M,Z,y,C,q⟩:=h
  have nd:=Hr.nd
  have hu:=Bw L
  have j:Aj 2 _:=L.mono (by first|decide|omega)
  have a:Aj 1 _:=L.mono (by first|decide|omega)
  refine⟨_,(AH (AR (AK r j rfl o l m .nil AV (AA (AK i a rfl g c d .nil AV (AA (pv 0) AB)) AB)))),?_⟩
  refine⟨_,rfl,G,v,t,n,rfl,M,Z,y,fun w H1 D hw=>?_⟩
  have hold:=y.Sb C
  rcases hw with hw|⟨e,p0,rfl,N⟩
  ·exact⟨G,w,t.hold,rfl,M.trans D,hw,hold,fun p O I R S U V X J=>q p O I R (D.trans S) (D.free U) V X J⟩
  ·refine⟨H1,.ref p0,.lst [],rfl,AG.refl _,.lst (.inl N) .nil,Nat.zero_le _,fun p O I R S U V X J=>q p O I R (D.trans S) (D.free U) V ?_ (by rw[e];exact J)⟩
   have:I=[]:=J
   subst this
   cases X
   exact .nil
end
end Cg
namespace Cg
open PySem L2
section
variable{P:Program} {w:World} {K:ACh} [BA K] {mg:Str->Option Value} {base:Heap}
theorem Pl:Ax ["holder","told"] ["holder","told"] (AL GF):=⟨rfl,rfl,rfl,by decide+kernel,rfl,by decide+kernel,by decide+kernel⟩
theorem Ua {f:Addr} {I:FuncData} (F:Dp K "filled" "filled" GF f I) (T:Txt mg) (c:Df P w K mg base "steps_of" ["doc"] 1 FV) (m:mg "zip"=none):BX P w K mg base DH 2 f I ["holder","told"] HY:=by
 obtain⟨j,k,d,e,g,i⟩:=c.ex
 refine F.ok Pl (fun J H Q E h=>?_) (fun R A outer s H J Q E M h=>?_)
 ·cases h<;>(subst_vars;rfl)
 ·have nd:=Pl.nd
  have Z:=Bw M
  have b:Aj 1 _:=M.mono (by first|decide|omega)
  refine⟨_,(AF (Af (A_ (AM CB rfl T.isinstance AZ (AA (pv 0) (AA (BE (v:=.ty "list") rfl T.list Bv rfl) AB)))) (AH (AR (BB Ck rfl T.list Bv (AA (pv 1) AB)))) AO)
   (AH (AR (O_ rfl rfl T.dict rfl m (AK i b rfl g d e .nil AV (AA (pv 0) AB)) (pv 1))))),?_⟩
  rcases h with⟨v,N,L,o,rfl,x,y,S,q⟩|⟨v,U,N,L,o,rfl,x,y,hold,z,B,q⟩
  ·cases x with
   |@lst a J _ h r=>
    refine⟨_,rfl,_,"list","list",rfl,rfl,.lst h,_,rfl,Bq ?_⟩
    exact⟨_,rfl,L,o,rfl,.inl (Ah.of y),fun p t=>q p _ (AG.new t) t AE⟩
  ·cases x with
   |@BM a kvs _ _ h V r=>
    refine⟨_,rfl,_,"list","dict",rfl,rfl,.dK h,_,rfl,As ?_⟩
    refine⟨_,rfl,.ref a,.BM U N,rfl,.BM h V r,hold,fun p l H1 C np t st=>?_⟩
    obtain⟨D,rfl,u,X⟩:=st
    have G:=C _ _ y
    have O:D.length=o.length:=by rw[u.length_eq,z]
    refine⟨_,rfl,p,L,D,o,rfl,rfl,Ah.of t,Ah.of G,O,by rw[u.length_eq];have:=hold.2;omega,fun Y n=>?_⟩
    refine q Y D _ (C.trans (AG.new n)) (C.free n) u X ?_
    rw[AE]
    congr 2
    exact ES O (u.nodup_iff.mpr B)
end
end Cg
namespace Cg
open PySem L2
section
variable{P:Program} {w:World} {K:ACh} [BA K] {mg:Str->Option Value} {base:Heap}
theorem Ip:Ax ["holder","inner"] ["holder"] (AL Cy):=⟨rfl,rfl,rfl,by decide+kernel,rfl,by decide+kernel,by decide+kernel⟩
theorem Nf {f:Addr} {fd:FuncData} (F:Dp K "inner_just" "inner_just" Cy f fd) (T:Txt mg) (I:Df P w K mg base "inner_of" ["doc"] 2 Gx) (Z:Df P w K mg base "filled" ["holder","told"] 2 HY):BX P w K mg base DH 3 f fd ["holder"] Ha:=by
 obtain⟨gx,gy,J,L,M,N⟩:=I.ex
 obtain⟨Y',ZA,ZC,ZD,ZE,ZF⟩:=Z.ex
 refine F.ok Ip (fun vs H Q E h=>?_) (fun LF A outer s H vs Q E hr h=>?_)
 ·obtain⟨U,v,t,cs,mk,rfl,hv,hh,hd,q⟩:=h
  rfl
 ·obtain⟨U,v,t,cs,mk,rfl,hv,hh,hd,q⟩:=h
  have nd:=Ip.nd
  have hu:=Bw hr
  have g:Aj 2 _:=hr.mono (by first|decide|omega)
  have O:Aj 2 _:=hr.mono (by first|decide|omega)
  refine⟨_,(AF (AX (i:=1) nd rfl (Or.inl rfl) (AK N g rfl M J L .nil AV (AA (pv 0) AB)))
   (AF (Af (A_ (AM (WM rfl) rfl T.any gC (AA (BI (fv:=[]) (fs:=[]) rfl (.of (by rfl)) (Br (pv 1)) (fun _ _ _ _=>BR) (fun C s0 U fp=>(Cj Ux (AS (r:=BD K) AY (pv 0) AD (fun _ _=>rfl)) Ag (AU _)))) AB))) (AH (AR MZ)) AO)
   (AH (AR (BF (AA Ag (AA (AK ZF O rfl ZE ZC ZD .nil AV (AA (pv 0) (AA (BI (fv:=[]) (fs:=[]) rfl (.of (by rfl)) (Br (pv 1)) (fun _ _ _ _=>BR) (fun C s0 U fp=>(AS (r:=BD K) AY (pv 0) AD (fun _ _=>rfl)))) AB))) AB))))))),?_⟩
  have hH:=hv.up Dh
  refine⟨_,rfl,nw U H,v,t,rfl,Dh,hv,hh.Sb,fun p X us H1 s1 np hp vl kd=>?_⟩
  have eu:=hh.kids kd
  subst eu
  have lz:=hh.len
  have yD:X.length=cs.length:=by have:=vl.length;rw[List.length_map]at this;exact this
  have ex:∀{i:Nat} {H2:Hp},i<X.length->AG H1 H2->∃(a:Addr) (w:Str) (rest:List V) (c:Ak),X.getD i .BV=.ref a/\cs[i]?=some c/\Bj K H2 a (.str w::rest)/\((∃d u,c=.Ac d/\w="just"/\rest=[u]/\Val (nw U H) u d)∨(w≠"just"/\∀d,c≠.Ac d)):=fun{i H2} j S=>by
   obtain⟨x,hx⟩:∃x,X[i]?=some x:=⟨_,ACd j⟩
   obtain⟨tx,Um,vx⟩:=vl.get hx
   rw[List.getElem?_map]at Um
   cases hc:cs[i]? with
   |none=>rw[hc]at Um;cases Um
   |some c=>
    rw[hc]at Um
    cases Um
    obtain⟨a,w,rest,rfl,ht,k⟩:=vx.ak
    have XM:=(ht.up Dh).up (s1.trans S)
    refine⟨a,w,rest,c,by rw[List.getD_eq_getElem?_getD,hx];rfl,rfl,XM,?_⟩
    rcases k with⟨rfl,rfl,rfl⟩|⟨d,u,rfl,rfl,rfl,hu⟩|⟨xs,m,u,rfl,rfl,rfl,hu⟩|⟨ks,xs,ls,m,u,z,rfl,rfl,rfl,hu,hz⟩
    ·exact .inr ⟨by decide,fun d z=>nomatch z⟩
    ·exact .inl ⟨d,u,rfl,rfl,rfl,hu⟩
    ·exact .inr ⟨by decide,fun d z=>nomatch z⟩
    ·exact .inr ⟨by decide,fun d z=>nomatch z⟩
  have li:∀i,i<X.length->X[i]?=some (X.getD i .BV):=fun i j=>by rw[List.getD_eq_getElem?_getD,ACd j];rfl
  refine⟨_,rfl,p,rfl,⟨_,Ah.of hp⟩,?_⟩
  refine CV (n:=X.length) (fun i=>X.getD i .BV) (fun i v=>∃c,cs[i]?=some c/\v=.bl c.eC) (Ad (by lia)) (fun i H2 j S=>⟨_,_,S.seq (Ah.of hp),li i j⟩) (fun i H2 v H' j S y=>?_) (fun H2 S=>⟨_,S.seq (Ah.of hp),Nat.le_refl _⟩) (fun i H2 R j S r=>?_) (fun D H2 vs hD S d2 lv ov=>?_)
  ·obtain⟨e,y⟩:=y
   have:=y _ (S.seq (Ah.of hp))
   rw[li i j]at this
   exact⟨(ACf this).symm,e⟩
  ·obtain⟨a,w,rest,c,e0,e2,XM,k⟩:=ex j S
   rw[e0]
   refine⟨_,rfl,a,_,0,_,rfl,rfl,XM,EC,rfl,r _ H2 (AG.refl _) ⟨c,e2,?_⟩⟩
   rcases k with⟨d,u,rfl,rfl,rfl,hu⟩|⟨n1,n2⟩
   ·rfl
   ·have:c.eC=true:=by
     cases c with
     |Ac d=>exact absurd rfl (n2 d)
     |_=>rfl
    rw[this]
    simp[OE,n1]
  ·obtain⟨bs,rfl,yE⟩:=Ym (by lia) ov
   refine⟨D,bs,rfl,Ah.of d2,?_⟩
   rw[yE]
   have uM:=s1.trans S
   cases hj:Ak.CI cs with
   |none=>exact⟨_,rfl,Bq (q .BV H2 uM (.inl ⟨hj,rfl⟩))⟩
   |some ds=>
    have uN:=Ak.Bn hj
    refine⟨_,rfl,As ?_⟩
    have JI:=S _ _ hp
    refine⟨_,rfl,_,rfl,p,rfl,⟨_,Ah.of JI⟩,?_⟩
    refine CV (n:=X.length) (fun i=>X.getD i .BV) (fun i v=>∃d,ds[i]?=some d/\Val (nw U H) v d) (Ad (by lia)) (fun i H3 j s3=>⟨_,_,s3.seq (Ah.of JI),li i j⟩) (fun i H3 v H' j s3 y=>?_) (fun H3 s3=>⟨_,s3.seq (Ah.of JI),Nat.le_refl _⟩) (fun i H3 R j s3 r=>?_) (fun D3 H3 us aQ s3 d3 lu ou=>?_)
    ·obtain⟨e,y⟩:=y
     have:=y _ (s3.seq (Ah.of JI))
     rw[li i j]at this
     exact⟨(ACf this).symm,e⟩
    ·obtain⟨a,w,rest,c,e0,e2,XM,k⟩:=ex j (S.trans s3)
     rw[e0]
     rw[uN,List.getElem?_map]at e2
     cases mU:ds[i]? with
     |none=>rw[mU]at e2;cases e2
     |some d'=>
      rw[mU]at e2
      cases e2
      rcases k with⟨d,u,e3,rfl,rfl,hu⟩|⟨n1,n2⟩
      ·cases e3
       exact⟨_,rfl,a,_,1,u,rfl,rfl,XM,Eb,r u H3 (AG.refl _) ⟨_,mU,hu⟩⟩
      ·exact absurd rfl (n2 d')
    ·have uO:ds.length=X.length:=by rw[yD,uN,List.length_map]
     have uP:Aa (nw U H) us ds:=Aa.of (by lia) fun i v t h1 h2=>by
      obtain⟨d,g1,g2⟩:=ou i v h1
      rw[h2]at g1
      cases g1
      exact g2
     have B:=uM.trans s3
     have fin:∀(p4:Addr) (G:Hp),AG H3 G->H3 p4=none->Val (nw U G) (.ref p4) (mk ds)->∀p5,G p5=none->Q (.ref p5) (upd G p5 (.tup [.str "just",.ref p4])):=fun p4 G Y n4 v4 p5 n5=>by
      refine q _ _ ((B.trans Y).trans (AG.new n5)) (.inr ⟨ds,hj,.tup (Bj.of ?_) (.cons (.str _) (.cons (v4.up ?_) .nil))⟩)
      ·rw[Al (hd p5 ((B.trans Y).free n5)),AE]
      ·exact BQ (fun b h=>h) fun b o h1 h2=>by rw[AJ (fun z=>by rw[z,n5]at h2;cases h2)];exact h2
     have upV:∀{G:Hp} {v:V} {d:Pt},AG H3 G->Val (nw U H) v d->Val (nw U G) v d:=fun Y h=>h.up (BQ (fun b h=>h) fun b o _ h2=>(B.trans Y) _ _ h2)
     have uQ:∀{G:Hp} {v:List V} {d:List Pt},AG H3 G->Aa (nw U H) v d->Aa (nw U G) v d:=fun Y h=>h.up (BQ (fun b h=>h) fun b o _ h2=>(B.trans Y) _ _ h2)
     have uR:=hH.up B
     cases hh with
     |row _ z=>
      refine .row v _ D3 us rfl uR d3 (by lia) fun p4 G Y n4 h4=>⟨Az,fun p5 n5=>fin p4 G Y n4 (.lst (.inl ?_) (uQ Y uP)) p5 n5⟩
      rw[Al (hd p4 (B.free n4))]
      exact h4
     |tab ss _ l nd z so=>
      refine .tab v _ _ D3 us rfl uR d3 ⟨by rw[List.length_map];exact l,z⟩ (by lia) nd fun p4 je G Y n4 pm g_ h4=>⟨Az,fun p5 n5=>?_⟩
      have e:=CN g_ so pm
      subst e
      have uS:je.length=us.length:=by lia
      refine fin p4 G Y n4 (.BM (kvs:=Bz je us) (.inl ?_) (Be uS) (by rw[CY uS];exact uQ Y uP)) p5 n5
      rw[Al (hd p4 (B.free n4))]
      exact h4
end
end Cg
namespace Cg
open PySem L2
section
variable{P:Program} {w:World} {K:ACh} [BA K] {mg:Str->Option Value} {base:Heap}
theorem Kx:Ax ["asks"] ["asks"] (AL DQ):=⟨rfl,rfl,rfl,by decide+kernel,rfl,by decide+kernel,by decide+kernel⟩
theorem Pm {n o:Addr} {f:Addr} {p:FuncData} (F:Dp K "good_form" "good_form" DQ f p) (T:Txt mg) (c:Df P w K mg base "folded" ["root","inner","join"] 6 (NG n o)) (x:mg "inner_nodes"=some (.ref n)) (y:mg "good_part"=some (.ref o)):BX P w K mg base DH 7 f p ["asks"] NH:=by
 obtain⟨j,k,d,e,g,i⟩:=c.ex
 refine F.ok Kx (fun z H Q E h=>?_) (fun B A outer s H z Q E r h=>?_)
 ·obtain⟨G,v,a,rfl,t,u,l,m,q⟩:=h
  rfl
 ·obtain⟨G,v,a,rfl,t,u,l,m,q⟩:=h
  have nd:=Kx.nd
  have C:=Bw r
  have b:Aj 6 _:=r.mono (by first|decide|omega)
  refine⟨_,(AH (AR (AK i b rfl g d e .nil AV (AA (pv 0) (AA (Ma (v:=.ref n) rfl x rfl) (AA (Ma (v:=.ref o) rfl y rfl) AB)))))),?_⟩
  exact⟨_,rfl,G,v,a,rfl,t,u,l,m,q⟩
end
end Cg
namespace Cg
open PySem L2
section
variable{P:Program} {w:World} {K:ACh} [BA K] {mg:Str->Option Value} {base:Heap}
theorem Ky:Ax ["asks","told"] ["asks","told"] (AL DR):=⟨rfl,rfl,rfl,by decide+kernel,rfl,by decide+kernel,by decide+kernel⟩
theorem Pn {aA:Addr} {f:Addr} {fd:FuncData} (F:Dp K "good_part" "good_part" DR f fd) (T:Txt mg) (M:Df P w K mg base "copy_of" ["doc"] 2 Gu) (N:Df P w K mg base "filled" ["holder","told"] 2 HY) (x:Df P w K mg base "good_row" ["cells","more"] 4 IU) (c:Df P w K mg base "good_table" ["names","lacking","more"] 4 IV) (mA:mg "ANY"=some (.ref aA)) (hA:Yd K aA ["any"]=true):BX P w K mg base DH 5 f fd ["asks","told"] Kb:=by
 obtain⟨jf,jg,O,R,S,U⟩:=M.ex
 obtain⟨Y',ZA,V,X,Y,Z⟩:=N.ex
 obtain⟨hC,hF,y,B,C,D⟩:=x.ex
 obtain⟨cg,cj,g,i,l,n⟩:=c.ex
 refine F.ok Ky (fun vs H Q E h=>?_) (fun LF A outer s H vs Q E hr h=>?_)
 ·obtain⟨G,H0,v,a0,L,ws,as,cs,rfl,sG,hv,BO,eE,hL,nL,hd,jh,ji,aR,q⟩:=h
  rfl
 ·obtain⟨G,H0,v,a0,L,ws,as,cs,rfl,sG,hv,BO,eE,hL,nL,hd,jh,ji,aR,q⟩:=h
  have nd:=Ky.nd
  have hu:=Bw hr
  have I:Aj 2 _:=hr.mono (by first|decide|omega)
  have J:Aj 2 _:=hr.mono (by first|decide|omega)
  have t:Aj 4 _:=hr.mono (by first|decide|omega)
  have a:Aj 4 _:=hr.mono (by first|decide|omega)
  refine⟨_,(AF (Af (AQ Bk (AS (r:=BD K) AY (pv 0) AD (fun _ _=>rfl)) Ag (AU _)) (AH (AR (Ma (v:=.ref aA) rfl mA rfl))) AO)
   (AF (Af (AQ Bk (AS (r:=BD K) AY (pv 0) AD (fun _ _=>rfl)) Ag (AU _)) (AH (AR (BF (AA Ag (AA (AK U I rfl S O R .nil AV (AA (AS (r:=BD K) AY (pv 0) AD (fun _ _=>rfl)) AB)) AB))))) AO)
   (AF (Af (AQ Bk (AS (r:=BD K) AY (pv 0) AD (fun _ _=>rfl)) Ag (AU _)) (AH (AR (AK D t rfl C y B .nil AV (AA (pv 1) (AA (AS (r:=BD K) AY (pv 0) AD (fun _ _=>rfl)) AB))))) AO)
   (AH (AR (AK n a rfl l g i .nil AV (AA (AK Z J rfl Y V X .nil AV (AA (AS (r:=BD K) AY (pv 0) AD (fun _ _=>rfl)) (AA (pv 1) AB))) (AA (AS (r:=BD K) AY (pv 0) AD (fun _ _=>rfl)) (AA (AS (r:=BD K) AY (pv 0) AD (fun _ _=>rfl)) AB))))))))),?_⟩
  obtain⟨t0,w0,rest,rfl,yF,k⟩:=hv.ak
  have ht:=yF.up sG
  have le:=ji.length
  have lw:=aR.length
  rw[List.length_map]at lw
  refine⟨_,rfl,t0,_,0,_,rfl,rfl,ht,EC,rfl,_,rfl,?_⟩
  rcases k with⟨rfl,rfl,rfl⟩|⟨d,u,rfl,rfl,rfl,hu⟩|⟨xs,m,u,rfl,rfl,rfl,hu⟩|⟨ks,xs,ls,m,u,z,rfl,rfl,rfl,hu,hz⟩
  ·exact Bl (by decide+kernel) (q (.ref aA) .any H (AG.refl H) (.tup (Bj.xP (ws:=["any"]) hA _) (.cons (.str _) .nil)) .any)
  ·refine BK (by decide+kernel) ⟨_,rfl,t0,_,0,_,rfl,rfl,ht,EC,rfl,_,rfl,Bl (by decide+kernel) ?_⟩
   simp only[Ak.Bu]at BO
   simp only[Ak.wt]at eE
   refine⟨_,rfl,t0,_,1,_,rfl,rfl,ht,Eb,O' rfl (hu.up sG) BO eE fun w H1 s1 vw=>⟨Az,fun p hp=>?_⟩⟩
   refine q _ (.Ac d) _ (s1.trans (AG.new hp)) (.tup (Bj.of (by rw[Al (hd p (s1.free hp)),AE])) (.cons (.str _) (.cons (vw.up (BQ hd fun b o _ h=>AG.new hp _ _ h)) .nil))) (.Ac d)
  ·refine BK (by decide+kernel) ⟨_,rfl,t0,_,0,_,rfl,rfl,ht,EC,rfl,_,rfl,BK (by decide+kernel) ?_⟩
   refine⟨_,rfl,t0,_,0,_,rfl,rfl,ht,EC,rfl,_,rfl,Bl (by decide+kernel) ?_⟩
   have ea:as=xs:=jh
   subst ea
   simp only[Ak.wt]at eE
   have:=Ak.Cm as
   have:=Ak.EW as
   exact⟨_,rfl,_,rfl,t0,_,2,_,rfl,rfl,ht,at2,H0,L,ws,cs,m,rfl,hL,aR,by lia,hd,nL,fun w H1 s1 vw=>q w _ H1 s1 vw (.row ji)⟩
  ·refine BK (by decide+kernel) ⟨_,rfl,t0,_,0,_,rfl,rfl,ht,EC,rfl,_,rfl,BK (by decide+kernel) ?_⟩
   refine⟨_,rfl,t0,_,0,_,rfl,rfl,ht,EC,rfl,_,rfl,BK (by decide+kernel) ?_⟩
   simp only[Ak.Kd]at jh
   obtain⟨ss,pm,so,e⟩:=jh
   simp only[Ak.Bu]at BO
   obtain⟨o1,o2,o3,o4,o5,o6,o7⟩:=BO
   have la:as.length=ss.length:=by have:=congrArg List.length e;simpa using this.symm
   have lks:=pm.length_eq
   refine⟨_,rfl,t0,_,1,_,rfl,rfl,ht,Eb,_,rfl,.tab u ks _ L ws rfl (hu.up sG) hL ⟨by rw[Ak.BG,List.length_map];exact o1,by lia⟩ (by lia) o2 fun p je H1 s1 np mV g_ hp=>?_⟩
   have es:=CN g_ so (mV.trans pm.symm)
   subst es
   have Nm:=ht.up s1
   refine⟨_,rfl,t0,_,2,_,rfl,rfl,Nm,at2,_,rfl,t0,_,3,_,rfl,rfl,Nm,Av (j:=3) rfl,G,H0,p,je,ws,cs,z,ls,m,rfl,hp,aR.up (BQ (fun b h=>h) fun b o _ h=>s1 _ _ h),by lia,mV.nodup_iff.mpr o2,by lia,g_,(fun b h=>hd b (s1.free h)),hd p np,(hz.up sG).up s1,o5,fun w H2 s2 vw=>q w _ H2 (s1.trans s2) vw (.tab mV g_ e ji)⟩
end
end Cg
namespace Cg
open PySem L2
section
variable{P:Program} {w:World} {K:ACh} [BA K] {mg:Str->Option Value} {base:Heap}
theorem MR:Ax ["cells","more","just"] ["cells","more"] (AL Ea):=⟨rfl,rfl,rfl,by decide+kernel,rfl,by decide+kernel,by decide+kernel⟩
theorem Rf {f:Addr} {M:FuncData} (F:Dp K "good_row" "good_row" Ea f M) (T:Txt mg) (c:Df P w K mg base "inner_just" ["holder"] 3 Ha):BX P w K mg base DH 4 f M ["cells","more"] IU:=by
 obtain⟨n,r,d,g,j,k⟩:=c.ex
 refine F.ok MR (fun Y H Q E h=>?_) (fun Z A outer s H Y Q E N h=>?_)
 ·obtain⟨B,L,ws,l,m,rfl,O,v,G,I,R,q⟩:=h
  rfl
 ·obtain⟨B,L,ws,l,m,rfl,O,v,G,I,R,q⟩:=h
  have nd:=MR.nd
  have hu:=Bw N
  have a:Aj 3 _:=N.mono (by first|decide|omega)
  refine⟨_,(AF (AX (i:=2) nd rfl (Or.inl rfl) (AK k a rfl j d g .nil AV (AA (pv 0) AB)))
   (AF (Af (PW.pt (ED (A_ (pv 1)) (Ed (AQ Uz (pv 2) MZ (AU _))))) (AH (AR (BF (AA Ag (AA (pv 0) (AA (pv 1) AB)))))) AO)
   (AH (AR (pv 2))))),?_⟩
  have len:=v.length
  rw[List.length_map]at len
  have S:Val (nw B H) (.ref L) (.lst (l.map Ak.pt)):=.lst (.inl (by rw[Al R];exact O)) v
  refine⟨_,rfl,B,.ref L,_,l,.lst,rfl,S,.row l (by omega),I,fun w D C hw=>?_⟩
  have up:∀{U:Hp},AG D U->Val (nw B U) (.ref L) (.lst (l.map Ak.pt)):=fun s2=>S.up (BQ (fun b h=>h) fun b o _ h=>(C.trans s2) _ _ h)
  have t:∀p,D p=none->Val (nw B (upd D p (.tup [.str "row",.ref L,.bl m]))) (.ref p) (Ak.row l m).pt:=fun p u=>by
   simp only[Ak.pt]
   rw[Ak.BG]
   exact .tup (Bj.of (by rw[Al (I p (C.free u)),AE])) (.cons (.str _) (.cons (up (AG.new u)) (.cons (.bl m) .nil)))
  have X:∀{x y z:V},[x,y,z].length<=sizeLine:=Ad (show 3<=1000 by decide)
  refine⟨_,rfl,_,rfl,?_⟩
  cases m with
  |true=>exact Bq (Bq ⟨_,rfl,_,rfl,X,fun p u=>q _ _ (C.trans (AG.new u)) (t p u)⟩)
  |false=>
   rcases hw with⟨J,rfl⟩|⟨ds,J,hw⟩
   ·have e:Ak.BP l false=Ak.row l false:=by unfold Ak.BP;rw[if_neg (by simp),J]
    rw[e]at q
    exact As ⟨_,rfl,rfl,_,rfl,Bq ⟨_,rfl,_,rfl,X,fun p u=>q _ _ (C.trans (AG.new u)) (t p u)⟩⟩
   ·have e:Ak.BP l false=Ak.Ac (.lst ds):=by unfold Ak.BP;rw[if_neg (by simp),J]
    rw[e]at q
    have nn:w≠.BV:=fun z=>by rw[z]at hw;cases hw
    exact As ⟨_,rfl,rfl,_,rfl,BK (decide_eq_false nn) ⟨_,rfl,q w D C hw⟩⟩
end
end Cg
namespace Cg
open PySem L2
section
variable{P:Program} {w:World} {K:ACh} [BA K] {mg:Str->Option Value} {base:Heap}
theorem Iq:Ax ["names","lacking","more","just"] ["names","lacking","more"] (AL Cz):=⟨rfl,rfl,rfl,by decide+kernel,rfl,by decide+kernel,by decide+kernel⟩
theorem Ng {f:Addr} {fd:FuncData} (F:Dp K "good_table" "good_table" Cz f fd) (T:Txt mg) (d:Df P w K mg base "inner_just" ["holder"] 3 Ha):BX P w K mg base DH 4 f fd ["names","lacking","more"] IV:=by
 obtain⟨u,v,g,j,k,l⟩:=d.ex
 refine F.ok Iq (fun vs H Q E h=>?_) (fun LF A outer s H vs Q E hr h=>?_)
 ·obtain⟨G,N,L,r,ws,t,z,X,m,rfl,hL,I,hlen,O,R,S,U,nL,hz,Y,q⟩:=h
  rfl
 ·obtain⟨G,N,L,r,ws,t,z,X,m,rfl,hL,I,hlen,O,R,S,U,nL,hz,Y,q⟩:=h
  have nd:=Iq.nd
  have hu:=Bw hr
  have c:Aj 3 _:=hr.mono (by first|decide|omega)
  refine⟨_,(AF (Af (A_ (pv 2)) (AH (AR (BF (AA Ag (AA (pv 0) (AA (BB Ck rfl T.list Bv (AA (pv 1) AB)) (AA Ct AB))))))) AO)
   (AF (AX (i:=3) nd rfl (Or.inl rfl) (AK l c rfl k g j .nil AV (AA (pv 0) AB)))
   (AF (Af (AQ Uz (pv 3) MZ (AU _)) (AH (AR (BF (AA Ag (AA (pv 0) (AA (A' AB) (AA Ct AB))))))) AO)
   (AH (AR (pv 3)))))),?_⟩
  have len:=I.length
  rw[List.length_map]at len
  have vL:Val (nw N H) (.ref L) (.BM r (t.map Ak.pt)):=.BM (kvs:=Bz r ws) (.inl (by rw[Al nL];exact hL)) (Be hlen) (by rw[CY hlen];exact I)
  have up:∀{H2:Hp},AG H H2->Val (nw N H2) (.ref L) (.BM r (t.map Ak.pt)):=fun s2=>vL.up (BQ (fun b h=>h) fun b o _ h=>s2 _ _ h)
  have tl:∀{x y z w:V},[x,y,z,w].length<=sizeLine:=Ad (show 4<=1000 by decide)
  have B:∀{J:Hp} {C:Addr} {zs:List Str} {m:Bool},AG H J->H C=none->J C=some (.lst (zs.map V.str))->∀p,J p=none->Val (nw N (upd J p (.tup [.str "table",.ref L,.ref C,.bl m]))) (.ref p) (Ak.tab r t zs m).pt:=fun{J C zs m} M n2 h2 p D=>by
   simp only[Ak.pt]
   rw[Ak.BG]
   have sp:=AG.new (o:=.tup [.str "table",.ref L,.ref C,.bl m]) D
   exact .tup (Bj.of (by rw[Al (U p (M.free D)),AE])) (.cons (.str _) (.cons (up (M.trans sp)) (.cons (.lst (.inl (by rw[Al (U C n2)];exact sp _ _ h2)) (HX zs)) (.cons (.bl m) .nil))))
  cases m with
  |true=>
   cases hz with
   |@lst a vs _ ha ra=>
    have ev:=Et ra
    subst ev
    refine⟨_,rfl,_,rfl,Bq ⟨_,rfl,_,rfl,a,_,rfl,.inl (.inl ha),fun C n=>⟨tl,fun p D=>?_⟩⟩⟩
    exact q _ _ ((AG.new n).trans (AG.new D)) (B (AG.new n) n AE p D)
  |false=>
   refine⟨_,rfl,_,rfl,As ?_⟩
   refine⟨_,rfl,N,.ref L,_,t,.BM r,rfl,vL,.tab r t (by omega) O R S,U,fun w J M hw=>?_⟩
   rcases hw with⟨Z,rfl⟩|⟨ds,Z,hw⟩
   ·have e:Ak.BH r t X false=Ak.tab r t [] false:=by unfold Ak.BH;rw[if_neg (by simp),Z]
    rw[e]at q
    exact⟨_,rfl,rfl,_,rfl,Bq ⟨_,rfl,Nat.zero_le _,fun C n=>⟨tl,fun p D=>q _ _ ((M.trans (AG.new n)).trans (AG.new D)) (B (zs:=[]) (M.trans (AG.new n)) (M.free n) AE p D)⟩⟩⟩
   ·have e:Ak.BH r t X false=Ak.Ac (.BM r ds):=by unfold Ak.BH;rw[if_neg (by simp),Z]
    rw[e]at q
    have nn:w≠.BV:=fun z=>by rw[z]at hw;cases hw
    exact⟨_,rfl,rfl,_,rfl,BK (decide_eq_false nn) ⟨_,rfl,q w J M hw⟩⟩
end
end Cg
namespace Cg
open PySem L2
section
variable{P:Program} {w:World} {K:ACh} [BA K] {mg:Str->Option Value} {base:Heap}
theorem XN:Ax ["_law_script","_law_k"] ["_law_script","_law_k"] (AL MO):=⟨rfl,rfl,rfl,by decide+kernel,rfl,by decide+kernel,by decide+kernel⟩
theorem ZH {f:Addr} {d:FuncData} (F:Dp K "_law_cell" "_law_cell" MO f d) (T:Txt mg):BX P w K mg base DH 1 f d ["_law_script","_law_k"] (Qp K):=by
 refine F.ok XN (fun g H Q E h=>?_) (fun i A outer s H g Q E j h=>?_)
 ·obtain⟨a,b,k,rfl,c,q⟩:=h
  rfl
 ·obtain⟨a,b,k,rfl,c,q⟩:=h
  have nd:=XN.nd
  have n:=Bw j
  refine⟨_,(AF (Af (AQ IZ (pv 1) (AM Ae rfl T.len PySem.boot_len (AA (pv 0) AB)) (AU _)) (AH (AR (AN Aq (AS (r:=CJ K) Aw (pv 0) (pv 1) (fun _ _=>rfl)) (AN FI AD (AN QU AD AD))))) AO)
   (AH (AR (AN Bp AD (AN FI AD (pv 1)))))),?_⟩
  refine⟨_,rfl,_,rfl,a,_,rfl,.inl c,_,_,rfl,rfl,_,rfl,?_⟩
  refine VM (fun e=>?_) (fun e=>?_)
  ·have l:k<b.length:=by
    have:=of_decide_eq_true e
    rw[List.length_map]at this
    omega
   have m:(b.map V.int)[k]?=some (.int b[k]):=by rw[List.getElem?_map,ACd l];rfl
   exact⟨_,rfl,_,rfl,a,_,_,_,rfl,rfl,c,Av m,_,_,rfl,rfl,⟨by decide,by decide,by decide⟩,_,_,rfl,rfl,.inl ⟨by decide,by decide⟩,_,_,rfl,rfl,(by show(0:Int)<_;decide),q _ (Int.emod_nonneg _ (by decide))⟩
  ·exact⟨_,rfl,_,_,rfl,rfl,.inl ⟨by decide,by decide⟩,_,_,rfl,rfl,q _ (by omega)⟩
end
end Cg
namespace Cg
open PySem L2
section
variable{P:Program} {w:World} {K:ACh} [BA K] {mg:Str->Option Value} {base:Heap}
theorem aS:Ax ["_law_cell_here","_law_k","_law_number","_law_j"] ["_law_cell_here","_law_k"] (AL RY):=⟨rfl,rfl,rfl,by decide+kernel,rfl,by decide+kernel,by decide+kernel⟩
theorem ck {f:Addr} {n:FuncData} (F:Dp K "_law_mix" "_law_mix" RY f n) (T:Txt mg):BX P w K mg base DH 1 f n ["_law_cell_here","_law_k"] Vf:=by
 refine F.ok aS (fun p H Q E h=>?_) (fun r A outer s H p Q E t h=>?_)
 ·obtain⟨c,k,rfl,u,q⟩:=h
  rfl
 ·obtain⟨c,k,rfl,u,q⟩:=h
  have nd:=aS.nd
  have v:=Bw t
  refine⟨_,(AF (Af (PW.pt (CD (AQ Bk (AN Aq (pv 0) AD) AD (AU _)) (CF (AQ fQ (pv 0) (AN FI AD (AN QU AD AD)) (AU _))))) (AF (AX (i:=2) nd rfl (Or.inl rfl) (AN Bc (pv 0) AD))
   (AF (DG PassesOwn.never rfl (BZ rfl T.range (AA (pv 1) AB)) (CP (i:=3) nd rfl (Or.inl rfl)) (AH (AX (i:=2) nd rfl (Or.inl rfl) (AN Bc (pv 2) AD))))
   (AH (AR (AN Aq (pv 2) AD))))) AO)
   (AF (AX (i:=2) nd rfl (Or.inl rfl) (AN Aq (AN FI (AN Bp (pv 0) AD) AD) AD))
   (AF (AX (i:=2) nd rfl (Or.inl rfl) (AN Aq (AN Bp (pv 2) (AN FI (AN Bp (pv 1) AD) AD)) AD))
   (AF (AX (i:=2) nd rfl (Or.inl rfl) (AN Aq (AN FI (pv 2) (pv 2)) AD))
   (AF (AX (i:=2) nd rfl (Or.inl rfl) (AN Aq (AN FI (AN Bp (pv 2) AD) (AN Bp (AN Bc (pv 2) AD) AD)) AD))
   (AH (AR (AN Bc (pv 2) AD)))))))),?_⟩
  have lo:∀x:Int,-(2 ^ 64)<x % 2305843009213693951/\x % 2305843009213693951<2 ^ 64:=fun x=>by
   have b:=Int.emod_nonneg x (show(2305843009213693951:Int)≠0 by decide)
   have d:=Int.emod_lt_of_pos x (show(0:Int)<2305843009213693951 by decide)
   constructor<;>omega
  have lo1:∀x:Int,-(2 ^ 64)<x % 999999999999999989+1/\x % 999999999999999989+1<2 ^ 64:=fun x=>by
   have b:=Int.emod_nonneg x (show(999999999999999989:Int)≠0 by decide)
   have d:=Int.emod_lt_of_pos x (show(0:Int)<999999999999999989 by decide)
   constructor<;>omega
  have o:¬(c % 4=0/\4*10 ^ 60<=c)->Q (.int ((OV c k+1)*(OV c k/1000003+7) % 2305843009213693951/7919)) H:=fun h=>by
   have e:Tr c k=_:=if_neg h
   rw[e]at q
   exact q
  refine⟨_,rfl,_,_,rfl,rfl,(by show(0:Int)<_;decide),rfl,_,rfl,?_⟩
  refine VM (fun b=>?_) (fun b=>?_)
  ·refine⟨_,rfl,_,_,rfl,rfl,⟨by decide,by decide,by decide⟩,_,_,rfl,rfl,.inl ⟨by decide,by decide⟩,_,_,rfl,rfl,_,rfl,?_⟩
   have c4:c % 4=0:=V.int.inj (of_decide_eq_true b)
   refine VM (fun d=>?_) (fun d=>?_)
   ·have g:4*10 ^ 60<=c:=of_decide_eq_true d
    have e:Tr c k=_:=if_pos ⟨c4,g⟩
    rw[e]at q
    refine⟨_,rfl,_,_,rfl,rfl,⟨by decide,by decide⟩,?_⟩
    refine⟨_,rfl,_,rfl,by omega,by omega,DN (lo:=0) (fun i j l=>∃(m:Option V),j=[some (.int c),some (.int (k:Int)),some (.int (Vd i (c/4))),m]/\l=H) ⟨none,rfl,rfl⟩ ?_ ?_⟩
    ·rintro i j l y ⟨m,rfl,rfl⟩
     exact⟨_,rfl,_,_,rfl,rfl,⟨by decide,by decide⟩,_,rfl,rfl⟩
    ·rintro j l ⟨m,rfl,rfl⟩
     rw[Int.toNat_natCast]
     exact⟨_,rfl,_,_,rfl,rfl,(by show(0:Int)<_;decide),q⟩
   ·have a:¬(c % 4=0/\4*10 ^ 60<=c):=fun z=>d (decide_eq_true z.2)
    refine⟨_,rfl,_,_,rfl,rfl,_,_,rfl,rfl,.inr ⟨by decide,by decide⟩,_,_,rfl,rfl,(by show(0:Int)<_;decide),?_⟩
    refine⟨_,rfl,_,rfl,_,_,rfl,rfl,_,_,rfl,rfl,.inr ⟨by decide,by decide⟩,_,_,rfl,rfl,_,_,rfl,rfl,(by show(0:Int)<_;decide),?_⟩
    refine⟨_,rfl,_,rfl,_,_,rfl,rfl,.inl (lo _),_,_,rfl,rfl,(by show(0:Int)<_;decide),?_⟩
    refine⟨_,rfl,_,_,rfl,rfl,_,rfl,_,_,rfl,rfl,⟨by decide,by decide⟩,_,_,rfl,rfl,_,_,rfl,rfl,.inl (lo1 _),_,_,rfl,rfl,(by show(0:Int)<_;decide),?_⟩
    exact⟨_,rfl,_,_,rfl,rfl,⟨by decide,by decide⟩,o a⟩
  ·refine As ?_
   have a:¬(c % 4=0/\4*10 ^ 60<=c):=fun z=>b (decide_eq_true (congrArg V.int z.1))
   refine⟨_,rfl,_,_,rfl,rfl,_,_,rfl,rfl,.inr ⟨by decide,by decide⟩,_,_,rfl,rfl,(by show(0:Int)<_;decide),?_⟩
   refine⟨_,rfl,_,rfl,_,_,rfl,rfl,_,_,rfl,rfl,.inr ⟨by decide,by decide⟩,_,_,rfl,rfl,_,_,rfl,rfl,(by show(0:Int)<_;decide),?_⟩
   refine⟨_,rfl,_,rfl,_,_,rfl,rfl,.inl (lo _),_,_,rfl,rfl,(by show(0:Int)<_;decide),?_⟩
   refine⟨_,rfl,_,_,rfl,rfl,_,rfl,_,_,rfl,rfl,⟨by decide,by decide⟩,_,_,rfl,rfl,_,_,rfl,rfl,.inl (lo1 _),_,_,rfl,rfl,(by show(0:Int)<_;decide),?_⟩
   exact⟨_,rfl,_,_,rfl,rfl,⟨by decide,by decide⟩,o a⟩
theorem ZI {f:Addr} {a:FuncData} (F:Dp K "_law_mix" "_law_mix" RY f a) (T:Txt mg):BX P w K mg base DH 1 f a ["_law_cell_here","_law_k"] Dr:=(ck F T).imp fun _ _ _ _ h=>Vg h
end
end Cg
namespace Cg
open PySem L2
section
variable{P:Program} {w:World} {K:ACh} [BA K] {mg:Str->Option Value} {base:Heap}
theorem Sn:Ax ["_law_cell_here","_law_letters","_law_word","_law_k","_law_at","_law_first"] ["_law_cell_here"] (AL IW):=⟨rfl,rfl,rfl,by decide+kernel,rfl,by decide+kernel,by decide+kernel⟩
theorem XO {f:Addr} {fd:FuncData} (F:Dp K "_law_names" "_law_names" IW f fd) (T:Txt mg) (S:Df P w K mg base "_law_mix" ["_law_cell_here","_law_k"] 1 Dr):BX P w K mg base DH 2 f fd ["_law_cell_here"] KI:=by
 obtain⟨Ub,Uc,g,k,l,o⟩:=S.ex
 refine F.ok Sn (fun G H Q E h=>?_) (fun LF A outer s H G Q E hr h=>?_)
 ·obtain⟨c,rfl,q⟩:=h
  rfl
 ·obtain⟨c,rfl,q⟩:=h
  have nd:=Sn.nd
  have hu:=Bw hr
  have a:Aj 1 _:=hr.mono (by first|decide|omega)
  refine⟨_,(AF (AX (i:=1) nd rfl (Or.inr rfl) Ag)
   (AF (AX (i:=2) nd rfl (Or.inr rfl) Ag)
   (AF (DG PassesOwn.never rfl (BZ rfl T.range (AA AD AB)) (CP (i:=3) nd rfl (Or.inl rfl)) (AH (AX (i:=2) nd rfl (Or.inr rfl) (AN Ef (AN Ef (pv 2) (AS QY (pv 1) (AN Aq (AK o a rfl l g k .nil AV (AA (pv 0) (AA (pv 3) AB))) AD) (fun _ _=>rfl))) (AS QY (pv 1) (AN Aq (AN Bc (AK o a rfl l g k .nil AV (AA (pv 0) (AA (pv 3) AB))) AD) AD) (fun _ _=>rfl))))))
   (AF (AX (i:=4) nd rfl (Or.inr rfl) (AN Aq (AK o a rfl l g k .nil AV (AA (pv 0) (AA AD AB))) AD))
   (AF (AX (i:=5) nd rfl (Or.inr rfl) (AK o a rfl l g k .nil AV (AA (pv 0) (AA AD AB))))
   (AF (Af (AQ Bk (AN Aq (pv 5) AD) AD (AU _)) (AH (AR (BI (fv:=["_law_word","_law_first"]) (fs:=[2,5]) rfl (.of (by rfl)) (BZ rfl T.range (AA AD AB)) (fun _ _ _ _=>BR) (fun C s0 H0 fp=>(DU Mp (pv 1) Fm (Dn (AN Bp (AN Bp (pv 0) AD) (AN Aq (AN Bc (pv 2) AD) AD)))))))) AO)
   (AH (AR (BI (fv:=["_law_word","_law_letters","_law_at","_law_first"]) (fs:=[2,1,4,5]) rfl (.of (by rfl)) (BZ rfl T.range (AA AD AB)) (fun _ _ _ _=>BR) (fun C s0 H0 fp=>(AN Ef (AN Ef (DU Mp (pv 1) Fm (Dn (pv 3))) (AS QY (pv 2) (AN Aq (AN Bp (AN Bc (pv 4) AD) (pv 0)) AD) (fun _ _=>rfl))) (DU Mp (pv 1) (Dn (AN Bp (pv 3) AD)) Fm)))))))))))),?_⟩
  have gen:∀(G:List V),(∀(j:Nat) v,G[j]?=some v->∃y:Str,v=.str y)->∃ys:List Str,G=ys.map V.str:=by
   intro G
   induction G with
   |nil=>exact fun _=>⟨[],rfl⟩
   |cons v r ih=>
    intro h
    obtain⟨y,rfl⟩:=h 0 v rfl
    obtain⟨ys,rfl⟩:=ih fun j v d=>h (j+1) v (by simpa using d)
    exact⟨y::ys,rfl⟩
  refine⟨4,rfl,by decide,by decide,DN (lo:=0) (n:=4) (fun i σ p=>∃(W:Str) (ok:Option V),σ=[some (.int c),some (.str Zy),some (.str W),ok,none,none]/\p=H/\(sgn W).length=2*i/\(sgn W).all Zu=true) ⟨"",none,rfl,rfl,rfl,rfl⟩ ?_ ?_⟩
  ·rintro i σ p J ⟨W,ok,rfl,rfl,wl,U⟩
   have M:W.length=2*i:=by rw[<-Jo];exact wl
   refine⟨_,rfl,_,rfl,_,rfl,_,rfl,c,i,by simp,by lia,fun u _ _=>?_⟩
   obtain⟨x,t,hl⟩:=Qo (u % 26) (Gr _).1 (Gr _).2
   have l1:(W++(⟨#[x]⟩:Str)).length<=8:=by rw[Str.length_append];show _+1<=8;lia
   refine⟨_,_,rfl,rfl,(by show(0:Int)<_;decide),Zy,_,x,rfl,rfl,by rw[Mt];decide,t,_,_,rfl,rfl,Nat.le_of_lt (BN (by show W.length+1<=1000;lia)),_,rfl,_,rfl,_,rfl,c,i,by simp,by lia,fun N _ _=>?_⟩
   obtain⟨X,Y,XP⟩:=Qo (N/26 % 26) (Gr _).1 (Gr _).2
   refine⟨_,_,rfl,rfl,⟨by decide,by decide⟩,_,_,rfl,rfl,(by show(0:Int)<_;decide),Zy,_,X,rfl,rfl,by rw[Mt];decide,Y,_,_,rfl,rfl,Nat.le_of_lt (BN (by show(W++(⟨#[x]⟩:Str)).length+1<=1000;lia)),_,_,rfl,rfl,?_,?_⟩
   ·rw[CK,CK,List.length_append,List.length_append,wl]
    show 2*i+1+1=2*(i+1)
    lia
   ·rw[CK,CK]
    show(sgn W++[x]++[X]).all Zu=true
    simp[hl,XP,U]
  ·rintro σ p ⟨W,ok,rfl,rfl,I,U⟩
   have I:(sgn W).length=8:=I
   have M:W.length=8:=by rw[<-Jo];exact I
   refine⟨_,rfl,c,4,rfl,by decide,fun u _ _=>⟨_,_,rfl,rfl,(by show(0:Int)<_;decide),?_⟩⟩
   have b1:=DX u (n:=8) (by decide)
   obtain⟨Eb,Z⟩:∃z:Nat,u % 8=(z:Int):=⟨(u % 8).toNat,by lia⟩
   have b2:Eb<8:=by lia
   refine⟨_,rfl,c,5,rfl,by decide,fun N r20 _=>?_⟩
   refine⟨_,rfl,_,_,rfl,rfl,(by show(0:Int)<_;decide),rfl,_,rfl,?_⟩
   refine VM (fun _=>?_) (fun _=>?_)
   ·have m5:=DX (N/3) (n:=5) (by decide)
    obtain⟨b,B⟩:∃z:Int,z=N/3 % 5:=⟨_,rfl⟩
    rw[<-B]at m5
    refine⟨4,rfl,by decide,by decide,CV (n:=4) (fun i=>.int (0+(i:Int))) (fun i v=>∃y:Str,v=.str y/\CL y=true/\((sgn y).length:Int)=(i:Int)+1+b) (by decide) (fun i H2 J s2=>J) (fun i H2 v H' J s2 y=>⟨y.2,y.1⟩) (fun H2 s2=>Nat.le_refl _) (fun i p R J s3 r=>?_) (fun D3 p G L s3 d3 lv ov=>?_)⟩
    ·refine⟨_,rfl,_,rfl,_,_,rfl,rfl,_,rfl,_,_,rfl,rfl,⟨by decide,by decide⟩,_,_,rfl,rfl,(by show(0:Int)<_;decide),_,_,rfl,rfl,_,rfl,W,rfl,by rw[M];decide,r _ p (AG.refl p) ⟨_,rfl,?_,?_⟩⟩
     ·rw[<-B]
      obtain⟨n,hn⟩:∃n:Nat,0+(i:Int)+1+b=(n:Int):=⟨(0+(i:Int)+1+b).toNat,by lia⟩
      show OS (sgn (Txt.slice W none (some (0+(i:Int)+1+b))))=true
      rw[hn,EL,Ms]
      refine OU ?_ ?_ (OT U n)
      ·rw[List.length_take,I];lia
      ·rw[List.length_take,I];lia
     ·rw[<-B]
      obtain⟨n,hn⟩:∃n:Nat,0+(i:Int)+1+b=(n:Int):=⟨(0+(i:Int)+1+b).toNat,by lia⟩
      rw[hn,EL,Ms,List.length_take,I]
      lia
    ·obtain⟨O,rfl⟩:=gen G fun j v d=>let⟨y,e,_⟩:=ov j v d;⟨y,e⟩
     have D:∀(j:Nat) y,O[j]?=some y->CL y=true/\((sgn y).length:Int)=(j:Int)+1+b:=fun j y d=>by
      obtain⟨y',e,h1,h2⟩:=ov j (.str y) (by rw[List.getElem?_map,d];rfl)
      cases e
      exact⟨h1,h2⟩
     refine q D3 O p s3 L ⟨d3,by rw[<-lv,List.length_map],OW (fun j y=>((sgn y).length:Int)=(j:Int)+1+b) (fun j y d=>(D j y d).2) fun i j y yG _ p1 p2=>by lia,fun y hy=>?_⟩
     obtain⟨j,d,rfl⟩:=List.mem_iff_getElem.mp hy
     exact(D j _ (ACd d)).1
   ·obtain⟨yH,yI⟩:∃z:Int,z=u % 8:=⟨_,rfl⟩
    obtain⟨b,B⟩:∃z:Int,z=N/3:=⟨_,rfl⟩
    refine⟨4,rfl,by decide,by decide,CV (n:=4) (fun i=>.int (0+(i:Int))) (fun i v=>∃y:Str,v=.str y/\CL y=true/\(sgn y)[Eb]?=VT[((b+(i:Int)) % 26).toNat]?) (by decide) (fun i H2 J s2=>J) (fun i H2 v H' J s2 y=>⟨y.2,y.1⟩) (fun H2 s2=>Nat.le_refl _) (fun i p R J s3 r=>?_) (fun D3 p G L s3 d3 lv ov=>?_)⟩
    ·obtain⟨x,t,hl⟩:=Qo ((N/3+(0+(i:Int))) % 26) (Gr _).1 (Gr _).2
     have l1:(Txt.slice W none (some (u % 8))).length<=8:=by rw[<-M];exact Txt.slice_le W _ _
     have l2:(Txt.slice W (some (u % 8+1)) none).length<=8:=by rw[<-M];exact Txt.slice_le W _ _
     have l3:(Txt.slice W none (some (u % 8))++(⟨#[x]⟩:Str)).length<=9:=by rw[Str.length_append];show _+1<=9;lia
     refine⟨_,rfl,_,rfl,_,rfl,W,rfl,by rw[M];decide,_,rfl,_,rfl,_,_,rfl,rfl,⟨by decide,by decide⟩,_,rfl,_,_,rfl,rfl,_,_,rfl,rfl,(by show(0:Int)<_;decide),Zy,_,x,rfl,rfl,by rw[Mt];decide,t,_,_,rfl,rfl,?_,_,rfl,_,rfl,_,_,rfl,rfl,_,rfl,W,rfl,by rw[M];decide,_,_,rfl,rfl,?_,r _ p (AG.refl p) ⟨_,rfl,?_,?_⟩⟩
     ·exact Nat.le_of_lt (BN (by show(Txt.slice W none (some (u % 8))).length+1<=1000;lia))
     ·exact Nat.le_of_lt (BN (by lia))
     ·show OS (sgn (Txt.slice W none (some (u % 8))++⟨#[x]⟩++Txt.slice W (some (u % 8+1)) none))=true
      have e1:(Eb:Int)+1=((Eb+1:Nat):Int):=by lia
      rw[CK,CK,EL,EL,Z,e1,Ms,VU]
      have ec:sgn ⟨#[x]⟩=[x]:=rfl
      rw[ec]
      refine OU ?_ ?_ ?_
      ·simp only[List.length_append,List.length_take,List.length_drop,I,List.length_singleton];lia
      ·simp only[List.length_append,List.length_take,List.length_drop,I,List.length_singleton];lia
      ·rw[List.all_append,List.all_append,OT U,VW U]
       simp[hl]
     ·rw[CK,CK,EL,Z,Ms]
      have ec:sgn ⟨#[x]⟩=[x]:=rfl
      rw[ec]
      have lt:((sgn W).take Eb).length=Eb:=by rw[List.length_take,I];lia
      rw[List.getElem?_append_left (by rw[List.length_append,lt,List.length_singleton];lia),List.getElem?_append_right (by rw[lt];exact Nat.le_refl _),lt,Nat.sub_self]
      rw[<-B]at t
      have hb:=Gr (b+(0+(i:Int)))
      obtain⟨m,hm⟩:∃m:Nat,(b+(0+(i:Int))) % 26=(m:Int):=⟨((b+(0+(i:Int))) % 26).toNat,by lia⟩
      have hz:(b+(i:Int)) % 26=(m:Int):=by rw[<-hm,Int.zero_add]
      rw[hz,Int.toNat_natCast]
      rw[hm]at t
      obtain⟨j',g1,g2,g3,_⟩:=JM t
      have:j'=m:=by
       have yJ:m<(sgn Zy).length:=by show m<VT.length;rw[Mu];lia
       have q1:QX (sgn Zy).length (m:Int)=some m:=by
        unfold QX
        rw[if_pos (by lia),if_pos (by lia),Int.toNat_natCast]
       have:=(Fn q1).1
       rw[this]at g1
       exact(ACf g1).symm
      rw[this]at g2
      exact g2.symm
    ·obtain⟨O,rfl⟩:=gen G fun j v d=>let⟨y,e,_⟩:=ov j v d;⟨y,e⟩
     have D:∀(j:Nat) y,O[j]?=some y->CL y=true/\(sgn y)[Eb]?=VT[((b+(j:Int)) % 26).toNat]?:=fun j y d=>by
      obtain⟨y',e,h1,h2⟩:=ov j (.str y) (by rw[List.getElem?_map,d];rfl)
      cases e
      exact⟨h1,h2⟩
     have l4:O.length=4:=by rw[<-lv,List.length_map]
     refine q D3 O p s3 L ⟨d3,l4,OW (fun j y=>(sgn y)[Eb]?=VT[((b+(j:Int)) % 26).toNat]?) (fun j y d=>(D j y d).2) fun i j y yG d p1 p2=>?_,fun y hy=>?_⟩
     ·rw[p1]at p2
      have nl:VT.Nodup:=by decide+kernel
      have hb:=(Gr (b+(i:Int)))
      have hb2:=(Gr (b+(j:Int)))
      have h1:((b+(i:Int)) % 26).toNat<VT.length:=by rw[Mu];lia
      have:=(List.getElem?_inj h1 nl).mp p2
      lia
     ·obtain⟨j,d,rfl⟩:=List.mem_iff_getElem.mp hy
      exact(D j _ (ACd d)).1
end
end Cg
namespace Cg
open PySem L2
section
variable{P:Program} {w:World} {K:ACh} [BA K] {mg:Str->Option Value} {base:Heap}
theorem aT:Ax ["_law_cell_here","_law_k","_law_names_here","_law_number","_law_small","_law_some"] ["_law_cell_here","_law_k","_law_names_here"] (AL UW):=⟨rfl,rfl,rfl,by decide+kernel,rfl,by decide+kernel,by decide+kernel⟩
theorem cm {f:Addr} {fd:FuncData} (F:Dp K "_law_doc" "_law_doc" UW f fd) (T:Txt mg) (Kz:Df P w K mg base "_law_mix" ["_law_cell_here","_law_k"] 1 Dr):BX P w K mg base DH 2 f fd ["_law_cell_here","_law_k","_law_names_here"] FZ:=by
 obtain⟨Ub,Uc,LW,LX,LY,LZ⟩:=Kz.ex
 refine F.ok aT (fun vs H Q E h=>?_) (fun LF A outer s H vs Q E hr h=>?_)
 ·obtain⟨c,k,n,ys,rfl,hk,J,q⟩:=h
  rfl
 ·obtain⟨c,k,n,ys,rfl,hk,J,q⟩:=h
  have nd:=aT.nd
  have hu:=Bw hr
  have S:Aj 1 _:=hr.mono (by first|decide|omega)
  refine⟨_,(AF (AX (i:=3) nd rfl (Or.inl rfl) (AK LZ S rfl LY LW LX .nil AV (AA (pv 0) (AA (pv 1) AB))))
   (AF (AX (i:=4) nd rfl (Or.inl rfl) (AN Aq (AN Bc (pv 3) AD) AD))
   (AF (AX (i:=5) nd rfl (Or.inl rfl) (A' (AA (AN IA (pv 4) AD) (AA (DU Mp Ag (Dn (pv 4)) Fm) (AA (A' AB) (AA Jk (AA (AN Bp (AN QU AD AD) (pv 3)) (AA (A' (AA (pv 4) AB)) (AA (A' (AA (A' AB) (AA Ag AB))) (AA (Mn (Gn (AS (r:=CJ K) Aw (pv 2) (AN Aq (pv 4) AD) (fun _ _=>rfl)) AD Mm) rfl rfl (by simp) (by simp)) AB))))))))))
   (AF (AX (i:=5) nd rfl (Or.inl rfl) (AN Qc (pv 5) (A' (AA (Mn (Gn (AS (r:=CJ K) Aw (pv 2) AD (fun _ _=>rfl)) (A' AB) (Gn (AS (r:=CJ K) Aw (pv 2) AD (fun _ _=>rfl)) Ag Mm)) rfl rfl (by simp) (by simp)) (AA (pv 4) (AA Ag (AA (A' (AA (pv 4) (AA Jk AB))) AB)))))))
   (AH (AR (AS (r:=CJ K) Aw (pv 5) (AN Aq (pv 3) AD) (fun _ _=>rfl)))))))),?_⟩
  have get:∀j:Nat,j<4->∃y,OD (ys.map V.str) (j:Int)=some (.str y)/\ys[j]?=some y/\CL y=true:=fun j hj=>⟨ys[j]'(by rw[J.len];exact hj),Av (by rw[List.getElem?_map,ACd (by rw[J.len];exact hj)];rfl),ACd (by rw[J.len];exact hj),J.nb _ (List.getElem_mem _)⟩
  obtain⟨C,a0,g0,b0⟩:=get 0 (by decide)
  obtain⟨D,a1,g1,b1⟩:=get 1 (by decide)
  have n12:D≠C:=fun z=>by
   rw[z,<-g0]at g1
   have:=(List.getElem?_inj (by rw[J.len];decide) J.nd).mp g1
   lia
  refine⟨_,rfl,_,rfl,c,k,rfl,hk,fun r _ _=>?_⟩
  refine⟨_,rfl,_,_,rfl,rfl,⟨by decide,by decide⟩,_,_,rfl,rfl,(by show(0:Int)<_;decide),?_⟩
  have m5:=DX (r/12) (n:=5) (by decide)
  obtain⟨e,he⟩:∃e:Nat,r/12 % 5=(e:Int):=⟨(r/12 % 5).toNat,by lia⟩
  have e5:e<5:=by lia
  rw[he]
  obtain⟨x,hx⟩:∃x,x=Txt.slice "abcde" (some (e:Int)) none:=⟨_,rfl⟩
  have lx:x.length<=100:=by
   have:=Txt.slice_le "abcde" (some (e:Int)) none
   rw[<-hx]at this
   exact Nat.le_trans this (by decide)
  obtain⟨R,az,gz,bz⟩:∃y,OD (ys.map V.str) ((e:Int) % 4)=some (.str y)/\True/\CL y=true:=by
   obtain⟨y,h1,_,h2⟩:=get (e % 4) (Nat.mod_lt _ (by decide))
   exact⟨y,by rw[<-h1];rfl,trivial,h2⟩
  refine⟨_,rfl,_,_,rfl,rfl,_,rfl,_,rfl,"abcde",rfl,by decide,?_⟩
  rw[<-hx]
  refine⟨Nat.zero_le _,fun g cn=>?_⟩
  have t1:=AG.new (o:=.lst []) cn
  have f1:upd H g (.lst []) g=some (.lst []):=AE
  generalize upd H g (.lst [])=H2 at t1 f1⊢
  refine fun l JI=>?_
  have t2:=AG.new (o:=.dK []) JI
  have f2:upd H2 l (.dK []) l=some (.dK []):=AE
  generalize upd H2 l (.dK [])=H3 at t2 f2⊢
  have t12:=t1.trans t2
  refine⟨_,_,rfl,rfl,⟨by decide,by decide,by decide⟩,_,rfl,_,_,rfl,rfl,?_⟩
  obtain⟨G,yK⟩:∃G:Int,G=(10:Int) ^ (30:Int).toNat+r:=⟨_,rfl⟩
  rw[<-yK]
  refine⟨_,rfl,Bs,fun m ZJ=>?_⟩
  have t3:=AG.new (o:=.lst [.int (e:Int)]) ZJ
  have f3:upd H3 m (.lst [.int (e:Int)]) m=some (.lst [.int (e:Int)]):=AE
  generalize upd H3 m (.lst [.int (e:Int)])=H4 at t3 f3⊢
  have t13:=t12.trans t3
  refine⟨Nat.zero_le _,fun U eF=>?_⟩
  have t4:=AG.new (o:=.lst []) eF
  have f4:upd H4 U (.lst []) U=some (.lst []):=AE
  generalize upd H4 U (.lst [])=H5 at t4 f4⊢
  have t14:=t13.trans t4
  refine⟨Az,fun u K_=>?_⟩
  have t5:=AG.new (o:=.lst [.ref U,.str "b"]) K_
  have f5:upd H5 u (.lst [.ref U,.str "b"]) u=some (.lst [.ref U,.str "b"]):=AE
  generalize upd H5 u (.lst [.ref U,.str "b"])=H6 at t5 f5⊢
  have X:=t14.trans t5
  refine fun d Y=>?_
  have t6:=AG.new (o:=.dK []) Y
  refine⟨_,rfl,_,rfl,_,_,rfl,rfl,(by show(0:Int)<_;decide),n,_,_,_,rfl,rfl,Ah.of ((X.trans t6) _ _ J.at_),az,AE,[(Sum.inr R,.int 1)],rfl,by simp,?_⟩
  have m6:CT [] [((Sum.inr R:Key),V.int 1)]=[(Sum.inr R,.int 1)]:=rfl
  rw[m6]
  have Z:AG H6 (upd (upd H6 d (.dK [])) d (.dK [(Sum.inr R,.int 1)])):=t6.put Y
  have f6:upd (upd H6 d (.dK [])) d (.dK [(Sum.inr R,.int 1)]) d=some (.dK [(Sum.inr R,.int 1)]):=AE
  generalize upd (upd H6 d (.dK [])) d (.dK [(Sum.inr R,.int 1)])=H7 at Z f6⊢
  have t16:=X.trans Z
  refine⟨Ad (show 8<=1000 by decide),fun L hL=>?_⟩
  have tL:=AG.new (o:=.lst [.int ((e:Int)-2),.str x,.ref g,.ref l,.int G,.ref m,.ref u,.ref d]) hL
  have fL:upd H7 L (.lst [.int ((e:Int)-2),.str x,.ref g,.ref l,.int G,.ref m,.ref u,.ref d]) L=some (.lst [.int ((e:Int)-2),.str x,.ref g,.ref l,.int G,.ref m,.ref u,.ref d]):=AE
  generalize upd H7 L (.lst [.int ((e:Int)-2),.str x,.ref g,.ref l,.int G,.ref m,.ref u,.ref d])=H8 at tL fL⊢
  have I:=t16.trans tL
  refine⟨_,rfl,fun a mW=>?_⟩
  have t9:=AG.new (o:=.dK []) mW
  have f9:upd H8 a (.dK []) a=some (.dK []):=AE
  generalize upd H8 a (.dK [])=HA at t9 f9⊢
  refine⟨_,rfl,n,_,_,_,rfl,rfl,Ah.of ((I.trans t9) _ _ J.at_),a1,Nat.zero_le _,fun b mX=>?_⟩
  have tA:=AG.new (o:=.lst []) mX
  have fA:upd HA b (.lst []) b=some (.lst []):=AE
  refine⟨_,rfl,n,_,_,_,rfl,rfl,Ah.of (((I.trans t9).trans tA) _ _ J.at_),a0,tA _ _ f9,[(Sum.inr D,.ref b),(Sum.inr C,.str "a")],rfl,by simp,?_⟩
  have m9:CT [] [((Sum.inr D:Key),V.ref b),(Sum.inr C,.str "a")]=[(Sum.inr D,.ref b),(Sum.inr C,.str "a")]:=Ek _ _ (by
   have:(Sum.inr D:Key)≠Sum.inr C:=fun z=>n12 (Sum.inr.inj z)
   simpa using this)
  rw[m9]
  have yL:b≠a:=Ne.symm (Ab f9 mX)
  have O:AG H8 (upd (upd HA b (.lst [])) a (.dK [(Sum.inr D,.ref b),(Sum.inr C,.str "a")])):=(t9.trans tA).put mW
  have uT:upd (upd HA b (.lst [])) a (.dK [(Sum.inr D,.ref b),(Sum.inr C,.str "a")]) a=some (.dK [(Sum.inr D,.ref b),(Sum.inr C,.str "a")]):=AE
  have uU:upd (upd HA b (.lst [])) a (.dK [(Sum.inr D,.ref b),(Sum.inr C,.str "a")]) b=some (.lst []):=by rw[AJ yL];exact fA
  have yM:H b=none:=I.free (t9.free mX)
  generalize upd (upd HA b (.lst [])) a (.dK [(Sum.inr D,.ref b),(Sum.inr C,.str "a")])=HB at O uT uU⊢
  have t19:=I.trans O
  refine⟨_,rfl,_,rfl,fun pB uV=>?_⟩
  have tB:=AG.new (o:=.dK []) uV
  have fB:upd HB pB (.dK []) pB=some (.dK []):=AE
  generalize upd HB pB (.dK [])=HC at tB fB⊢
  have uW:=t19.trans tB
  refine⟨Az,fun B uX=>?_⟩
  have tC:=AG.new (o:=.lst [.int (e:Int),.ref pB]) uX
  have fC:upd HC B (.lst [.int (e:Int),.ref pB]) B=some (.lst [.int (e:Int),.ref pB]):=AE
  generalize upd HC B (.lst [.int (e:Int),.ref pB])=HD at tC fC⊢
  have yN:=uW.trans tC
  refine⟨Ad (show 4<=1000 by decide),fun M hM=>?_⟩
  have tM:=AG.new (o:=.lst [.ref a,.int (e:Int),.str "",.ref B]) hM
  have fM:upd HD M (.lst [.ref a,.int (e:Int),.str "",.ref B]) M=some (.lst [.ref a,.int (e:Int),.str "",.ref B]):=AE
  generalize upd HD M (.lst [.ref a,.int (e:Int),.str "",.ref B])=HE at tM fM⊢
  have yO:=yN.trans tM
  refine⟨L,M,_,_,rfl,rfl,(((O.trans tB).trans tC).trans tM) _ _ fL,fM,Ad (show 12<=1000 by decide),fun N hN=>?_⟩
  have tN:=AG.new (o:=.lst ([.int ((e:Int)-2),.str x,.ref g,.ref l,.int G,.ref m,.ref u,.ref d]++[.ref a,.int (e:Int),.str "",.ref B])) hN
  have fN:upd HE N (.lst ([.int ((e:Int)-2),.str x,.ref g,.ref l,.int G,.ref m,.ref u,.ref d]++[.ref a,.int (e:Int),.str "",.ref B])) N=some (.lst ([.int ((e:Int)-2),.str x,.ref g,.ref l,.int G,.ref m,.ref u,.ref d]++[.ref a,.int (e:Int),.str "",.ref B])):=AE
  generalize upd HE N (.lst ([.int ((e:Int)-2),.str x,.ref g,.ref l,.int G,.ref m,.ref u,.ref d]++[.ref a,.int (e:Int),.str "",.ref B]))=HF at tN fN⊢
  have mb:=DX r (n:=12) (by decide)
  obtain⟨v,hv,mv⟩:=FQ (xs:=([V.int ((e:Int)-2),.str x,.ref g,.ref l,.int G,.ref m,.ref u,.ref d]++[V.ref a,.int (e:Int),.str "",.ref B]:List V)) mb.1 (by exact mb.2)
  refine⟨_,rfl,_,rfl,_,_,rfl,rfl,(by show(0:Int)<_;decide),N,_,_,_,rfl,rfl,Ah.of fN,hv,?_⟩
  have z:=yO.trans tN
  have sC:=tM.trans tN
  have sB:=tC.trans sC
  have s9:=tB.trans sB
  have sL:=O.trans s9
  have s6:=tL.trans sL
  have s5:=Z.trans s6
  have s4:=t5.trans s5
  have s3:=t4.trans s4
  have s2:=t3.trans s3
  have s1:=t2.trans s2
  have new:∀{p:Addr} {o:HO},H p=none->HF p=some o->nw H HF p=some o:=fun h1 h2=>by rw[Al h1];exact h2
  have v1:=new cn (s1 _ _ f1)
  have v2:=new (t1.free JI) (s2 _ _ f2)
  have v3:=new (t12.free ZJ) (s3 _ _ f3)
  have v4:=new (t13.free eF) (s4 _ _ f4)
  have v5:=new (t14.free K_) (s5 _ _ f5)
  have v6:=new (X.free Y) (s6 _ _ f6)
  have v9:=new (I.free mW) (s9 _ _ uT)
  have vA:=new yM (s9 _ _ uU)
  have vB:=new (t19.free uV) (sB _ _ fB)
  have vC:=new (uW.free uX) (sC _ _ fC)
  have k:∀t:Pt,Small H HF v t->Q v HF:=fun t h=>q v t HF z h
  simp only[List.cons_append,List.nil_append,List.mem_cons,List.not_mem_nil,or_false]at mv
  have one:∀{P:Pt->Prop} {x:Pt},P x->∀y∈[x],P y:=fun h y hy=>by rw[List.mem_singleton.mp hy];exact h
  have two:∀{P:Pt->Prop} {x y:Pt},P x->P y->∀z∈[x,y],P z:=fun h1 h2 z hz=>by
   rcases List.mem_cons.mp hz with rfl|hz
   ·exact h1
   ·rw[List.mem_singleton.mp hz];exact h2
  rcases mv with rfl|rfl|rfl|rfl|rfl|rfl|rfl|rfl|rfl|rfl|rfl|rfl
  ·exact k _ ⟨.int _,.one (.int _),trivial,by simp[Pt.size],by simp[Pt.deep]⟩
  ·exact k _ ⟨.str _,.one (.str _),lx,by simp[Pt.size],by simp[Pt.deep]⟩
  ·exact k _ ⟨.lst (.inl v1) .nil,.one .nil,trivial,by simp[Pt.size,Pt.AI],by simp[Pt.deep,Pt.AW]⟩
  ·exact k _ ⟨.BM (ks:=[]) (.inl v2) rfl .nil,.one .emp,by simp[Pt.doc,Pt.CU],by simp[Pt.size,Pt.AI],by simp[Pt.deep,Pt.AW]⟩
  ·exact k _ ⟨.int _,.one (.int _),trivial,by simp[Pt.size],by simp[Pt.deep]⟩
  ·exact k _ ⟨.lst (.inl v3) (.cons (.int _) .nil),.row (one (.int _)),by simp[Pt.doc,Pt.CU],by simp[Pt.size,Pt.AI],by simp[Pt.deep,Pt.AW]⟩
  ·exact k _ ⟨.lst (.inl v5) (.cons (.lst (.inl v4) .nil) (.cons (.str _) .nil)),.row (two .nil (.str _)),by simp only[Pt.doc,Pt.CU,and_true,true_and];decide,by simp[Pt.size,Pt.AI],by simp[Pt.deep,Pt.AW]⟩
  ·exact k _ ⟨.BM (ks:=[R]) (.inl v6) rfl (.cons (.int _) .nil),.tab (one (.int _)),by simp[Pt.doc,Pt.CU,bz],by simp[Pt.size,Pt.AI],by simp[Pt.deep,Pt.AW]⟩
  ·exact k _ ⟨.BM (ks:=[D,C]) (.inl v9) rfl (.cons (.lst (.inl vA) .nil) (.cons (.str _) .nil)),.tab (two .nil (.str _)),by
    simp only[Pt.doc,Pt.CU,and_true,true_and]
    refine⟨rfl,by simpa using n12,?_,by simp,by decide⟩
    intro k hk
    simp only[List.mem_cons,List.not_mem_nil,or_false]at hk
    rcases hk with rfl|rfl
    ·exact b1
    ·exact b0,by simp[Pt.size,Pt.AI],by simp[Pt.deep,Pt.AW]⟩
  ·exact k _ ⟨.int _,.one (.int _),trivial,by simp[Pt.size],by simp[Pt.deep]⟩
  ·exact k _ ⟨.str _,.one (.str _),by simp only[Pt.doc];decide,by simp[Pt.size],by simp[Pt.deep]⟩
  ·exact k _ ⟨.lst (.inl vC) (.cons (.int _) (.cons (.BM (ks:=[]) (.inl vB) rfl .nil) .nil)),.row (two (.int _) .emp),by simp[Pt.doc,Pt.CU],by simp[Pt.size,Pt.AI],by simp[Pt.deep,Pt.AW]⟩
end
end Cg
namespace Cg
open PySem L2
section
variable{P:Program} {w:World} {K:ACh} [BA K] {mg:Str->Option Value} {base:Heap}
theorem XQ:Ax ["_law_thing"] ["_law_thing"] (AL Ko):=⟨rfl,rfl,rfl,by decide+kernel,rfl,by decide+kernel,by decide+kernel⟩
theorem ZK {n:Nat} {f:Addr} {fd:FuncData} (F:Dp K "_law_copy" "_law_copy" Ko f fd) (T:Txt mg) (K':Df P w K mg base "_law_copy" ["_law_thing"] n (Cc n)):BX P w K mg base DH (n+1) f fd ["_law_thing"] (Cc (n+1)):=by
 obtain⟨XR,XS,B,G,I,J⟩:=K'.ex
 refine F.ok XQ (fun vs H Q E h=>?_) (fun LF A outer s H vs Q E hr h=>?_)
 ·obtain⟨v,t,rfl,hv,S,U,q⟩:=h
  rfl
 ·obtain⟨v,t,rfl,hv,S,U,q⟩:=h
  have nd:=XQ.nd
  have V:=Bw hr
  have m:Aj n _:=hr.mono (by first|decide|omega)
  refine⟨_,(AF (Af (A_ (AM (Ba:BJ _ _ (DE K)) rfl T.isinstance AZ (AA (pv 0) (AA (BE (v:=.ty "list") rfl T.list Bv rfl) AB)))) (AH (AR (BI (fv:=[]) (fs:=[]) rfl (.of (by rfl)) (Br (pv 0)) (fun _ _ _ _=>BR) (fun C s0 H0 fp=>(AK J m rfl I B G .nil AV (AA (pv 0) AB)))))) AO)
   (AF (Af (A_ (AM (Ba:BJ _ _ (DE K)) rfl T.isinstance AZ (AA (pv 0) (AA (BE (v:=.ty "tuple") rfl T.tuple JO rfl) AB)))) (AH (AR (BB LK rfl T.tuple JO (AA (BI (fv:=[]) (fs:=[]) rfl (.of (by rfl)) (Uu (pv 0)) (fun _ _ _ _=>BR) (fun C s0 H0 fp=>(AK J m rfl I B G .nil AV (AA (pv 0) AB)))) AB)))) AO)
   (AF (Af (A_ (AM (Ba:BJ _ _ (DE K)) rfl T.isinstance AZ (AA (pv 0) (AA (BE (v:=.ty "dict") rfl T.dict CM rfl) AB)))) (AH (AR (BB (Cb rfl) rfl T.dict CM (AA (SM (BI (fv:=["_law_thing"]) (fs:=[0]) rfl (.of (by rfl)) (JP (pv 0)) (fun _ _ _ _=>BR) (fun C s0 H0 fp=>(BF (AA (pv 0) (AA (AK J m rfl I B G .nil AV (AA (CQ V (pv 1) (pv 0) (fun _ _=>rfl)) AB)) AB)))))) AB)))) AO)
   (AH (AR (pv 0)))))),?_⟩
  cases hv with
  |int i=>exact⟨_,rfl,_,"list","int",rfl,rfl,.n (.int i),_,rfl,As ⟨_,rfl,_,"tuple","int",rfl,rfl,.n (.int i),_,rfl,As ⟨_,rfl,_,"dict","int",rfl,rfl,.n (.int i),_,rfl,As ⟨_,rfl,q _ H (AG.refl H) (.int i)⟩⟩⟩⟩
  |str i=>exact⟨_,rfl,_,"list","str",rfl,rfl,.n (.str i),_,rfl,As ⟨_,rfl,_,"tuple","str",rfl,rfl,.n (.str i),_,rfl,As ⟨_,rfl,_,"dict","str",rfl,rfl,.n (.str i),_,rfl,As ⟨_,rfl,q _ H (AG.refl H) (.str i)⟩⟩⟩⟩
  |bl i=>exact⟨_,rfl,_,"list","bool",rfl,rfl,.n (.bl i),_,rfl,As ⟨_,rfl,_,"tuple","bool",rfl,rfl,.n (.bl i),_,rfl,As ⟨_,rfl,_,"dict","bool",rfl,rfl,.n (.bl i),_,rfl,As ⟨_,rfl,q _ H (AG.refl H) (.bl i)⟩⟩⟩⟩
  |@lst a vs L h r=>
   refine⟨_,rfl,_,"list","list",rfl,rfl,.n (.lst h),_,rfl,Bq ?_⟩
   simp only[Pt.nice]at S
   simp only[Pt.deep]at U
   have lv:=r.length
   refine⟨_,rfl,a,rfl,⟨_,.inl h⟩,?_⟩
   refine Cr none L.length (fun i=>vs.getD i .BV) (fun i g d=>g=L.take i) (by lia) (fun D M=>rfl) (fun i g d D N s M c=>c) (fun l z=>nomatch z) (fun i g d O s c=>⟨_,_,.inl (h.up (s.same _)),ACd (by lia)⟩) (fun i g d v H' O s c y=>?_) (fun g d s c=>⟨_,.inl (h.up (s.same _)),by lia⟩) (fun i g d R O s c lu k=>?_) (fun D d N g M s d2 lu vl c=>?_)
   ·obtain⟨e,y⟩:=y
    refine⟨?_,e⟩
    have:=y _ (.inl (h.up (s.same _)))
    rw[List.getD_eq_getElem?_getD,this]
    rfl
   ·obtain⟨u,V⟩:∃u,L[i]?=some u:=⟨_,ACd O⟩
    obtain⟨x,hx,vx⟩:=r.get' V
    have Y:=ACg V
    have dx:=Pt.Ao Y
    have ev:vs.getD i .BV=x:=by rw[List.getD_eq_getElem?_getD,hx];rfl
    rw[ev]
    refine⟨_,rfl,x,u,rfl,vx.up s.same,Pt.Fy S.2 u Y,by lia,fun w H3 s3 v3=>k w u H3 (.of s3) v3 ?_⟩
    rw[c,List.take_add_one,V]
    rfl
   ·rw[List.take_length]at c
    subst c
    exact q _ d s.same (.lst (.inl (by rw[Al M];exact d2)) vl)
  |@tup a vs L h r=>
   refine⟨_,rfl,_,"list","tuple",rfl,rfl,.t h,_,rfl,As ⟨_,rfl,_,"tuple","tuple",rfl,rfl,.t h,_,rfl,Bq ?_⟩⟩
   simp only[Pt.nice]at S
   simp only[Pt.deep]at U
   have lv:=r.length
   refine⟨_,rfl,a,rfl,⟨_,h⟩,?_⟩
   refine Cr none L.length (fun i=>vs.getD i .BV) (fun i g d=>g=L.take i) (by lia) (fun D M=>rfl) (fun i g d D N s M c=>c) (fun l z=>nomatch z) (fun i g d O s c=>⟨_,_,h.up s.same,ACd (by lia)⟩) (fun i g d v H' O s c y=>?_) (fun g d s c=>⟨_,h.up s.same,by lia⟩) (fun i g d R O s c lu k=>?_) (fun D d N g M s d2 lu vl c=>?_)
   ·obtain⟨e,y⟩:=y
    refine⟨?_,e⟩
    have:=y _ (h.up s.same)
    rw[List.getD_eq_getElem?_getD,this]
    rfl
   ·obtain⟨u,V⟩:∃u,L[i]?=some u:=⟨_,ACd O⟩
    obtain⟨x,hx,vx⟩:=r.get' V
    have Y:=ACg V
    have dx:=Pt.Ao Y
    have ev:vs.getD i .BV=x:=by rw[List.getD_eq_getElem?_getD,hx];rfl
    rw[ev]
    refine⟨_,rfl,x,u,rfl,vx.up s.same,Pt.Fy S.2 u Y,by lia,fun w H3 s3 v3=>k w u H3 (.of s3) v3 ?_⟩
    rw[c,List.take_add_one,V]
    rfl
   ·rw[List.take_length]at c
    subst c
    refine⟨D,N,rfl,.inl ⟨Ah.of d2,fun p Z=>?_⟩⟩
    have Xn:=s.same.free Z
    exact q _ _ (s.same.trans (AG.new Z)) (.tup (Bj.of (by rw[Al Xn,AE])) (vl.up (BQ (fun b h=>h) fun b e h1 X=>by rw[AJ (fun z=>by rw[z,Z]at X;cases X)];exact X)))
  |@BM a kvs ks L h hk r=>
   refine⟨_,rfl,_,"list","dict",rfl,rfl,.n (.dK h),_,rfl,As ⟨_,rfl,_,"tuple","dict",rfl,rfl,.n (.dK h),_,rfl,As ⟨_,rfl,_,"dict","dict",rfl,rfl,.n (.dK h),_,rfl,Bq ?_⟩⟩⟩
   simp only[Pt.nice]at S
   simp only[Pt.deep]at U
   obtain⟨nl,jb,n9,S⟩:=S
   have kl:kvs.length=ks.length:=by have:=congrArg List.length hk;simpa using this
   refine⟨a,_,h,fun o Hf F=>⟨_,rfl,a,o,_,rfl,F.at_,?_⟩⟩
   refine Fx none L.length (fun i=>.str (ks.getD i "")) ks (fun i g d=>g=L.take i) (by lia) (fun D M=>rfl) (fun i g d D N s M c=>c) (fun l z=>nomatch z) (fun i g d O s c=>⟨s.same _ _ F.at_,by lia⟩) (fun i g d v H' O s c y=>?_) (fun g d s c=>⟨s.same _ _ F.at_,by lia⟩) (fun i g d R O s c lu k=>?_) (fun D d qs N g M s d2 lq lu tt vl c=>?_)
   ·obtain⟨e,k,w',e1,e2⟩:=y
    rw[(Qz hk e1).2]at e2
    exact⟨e2,e⟩
   ·obtain⟨x,u,g1,g2,g3⟩:=NA hk r jb (i:=i) (by lia)
    have Y:=ACg g2
    have dx:=Pt.Ao Y
    have yP:FR H d:=F.rd.trans s.same.r
    refine⟨_,rfl,_,rfl,_,rfl,a,x,rfl,.inl ⟨kvs,Sum.inr (ks.getD i ""),yP a _ h,rfl,g1.symm⟩,x,u,rfl,g3.Oq ((Oo.CZ F).trans (.of s.same)),Pt.Fy S u Y,by lia,fun w H3 s3 v3=>⟨Az,fun t ht=>k w u H3 t (.of s3) v3 ?_ ht⟩⟩
    rw[c,List.take_add_one,g2]
    rfl
   ·refine⟨s.same _ _ F.at_,?_⟩
    rw[List.take_length]at c
    subst c
    have sb:=F.back s.same
    have ba:∀b,b≠a->back a H d b=d b:=fun b hb=>Fv hb
    have Da:D≠a:=(F.free M).2
    have lw:=vl.length
    have el:ks.length=N.length:=by lia
    refine⟨D,qs,Bz ks N,rfl,Ah.of (by rw[ba D Da];exact d2),by rw[DA el];lia,fun j k v e=>?_,by rw[DA el];lia,fun p Z=>?_⟩
    ·obtain⟨x,h1,X,h3⟩:=JT e
     obtain⟨t,ht⟩:∃t,qs[j]?=some t:=⟨_,ACd (by have:=(ACe h1).1;lia)⟩
     obtain⟨g2,g3⟩:=tt j t v ht X
     refine⟨t,ht,?_⟩
     rw[ba t (F.free g3).2,g2,h3,List.getD_eq_getElem?_getD,h1]
     rfl
    ·rw[ES el jb]
     have yQ:H p=none:=sb.free Z
     have Yz:Aa (nw H (upd (back a H d) p (.dK (Bz ks N)))) N g:=vl.up (BQ (fun b h=>(F.free h).1) fun b e h1 X=>by
      have hb:=(F.free h1).2
      have nb:b≠p:=fun z=>by rw[z]at X hb;rw[ba p hb,X]at Z;cases Z
      rw[AJ nb,ba b hb]
      exact X)
     exact q _ _ (sb.trans (AG.new Z)) (.BM (.inl (by rw[Al yQ,AE])) (Be el) (by rw[CY el];exact Yz))
theorem Hs {f:Addr} {a:FuncData} (F:Dp K "_law_copy" "_law_copy" Ko f a) (T:Txt mg) (b:Binds K a ["_law_thing"] []) (m:mg "_law_copy"=some (.ref f)):∀n:Nat,BX P w K mg base DH n f a ["_law_thing"] (Cc n)
 |0=>Ic (fun vs H Q E h=>by obtain⟨v,t,_,_,_,c,_⟩:=h;have:=Pt.De t;omega)
 |n+1=>ZK F T (Df.mk' F b m (Hs F T b m n))
end
end Cg
namespace Cg
open PySem L2
section
variable{P:Program} {w:World} {K:ACh} [BA K] {mg:Str->Option Value} {base:Heap}
theorem XT:Ax ["_law_thing","_law_name","_law_one"] ["_law_thing"] (AL Kq):=⟨rfl,rfl,rfl,by decide+kernel,rfl,by decide+kernel,by decide+kernel⟩
theorem ZL {n:Nat} {f:Addr} {fd:FuncData} (F:Dp K "_law_ruin" "_law_ruin" Kq f fd) (T:Txt mg) (XU:Df P w K mg base "_law_ruin" ["_law_thing"] n (Hq n)):BX P w K mg base DH (n+1) f fd ["_law_thing"] (Hq (n+1)):=by
 obtain⟨hG,hJ,B,C,D,I⟩:=XU.ex
 refine F.ok XT (fun N H Q E h=>?_) (fun LF A outer s H N Q E hr h=>?_)
 ·obtain⟨G,v,t,c,rfl,kf,O,hE,X,hz,hw,q⟩:=h
  rfl
 ·obtain⟨G,v,t,c,rfl,kf,O,hE,X,hz,hw,q⟩:=h
  have nd:=XT.nd
  have m:=Bw hr
  have l:Aj n _:=hr.mono (by first|decide|omega)
  refine⟨_,(AF (Af (A_ (AM (Ba:BJ _ _ (DE K)) rfl T.isinstance AZ (AA (pv 0) (AA (BE (v:=.ty "dict") rfl T.dict CM rfl) AB)))) (AF (SN (DG PassesOwn.never rfl (JP (pv 0)) (CP (i:=1) nd rfl (Or.inl rfl)) (AH (Ci (AK I l rfl D B C .nil AV (AA (CQ m (pv 0) (pv 1) (fun _ _=>rfl)) AB))))))
   (AH (Fp m (pv 0) Ag AD rfl))) AO)
   (AF (Af (A_ (AM (Qy:BJ _ _ (Qx K)) rfl T.isinstance AZ (AA (pv 0) (AA (BF (AA (BE (v:=.ty "list") rfl T.list Bv rfl) (AA (BE (v:=.ty "tuple") rfl T.tuple JO rfl) AB))) AB)))) (AH (Qr (DG PassesOwn.never rfl (Br (pv 0)) (CP (i:=2) nd rfl (Or.inl rfl)) (AH (Ci (AK I l rfl D B C .nil AV (AA (pv 2) AB))))) (DG PassesOwn.never rfl (Uu (pv 0)) (CP (i:=2) nd rfl (Or.inl rfl)) (AH (Ci (AK I l rfl D B C .nil AV (AA (pv 2) AB))))))) AO)
   (AH (Af (A_ (AM (Ba:BJ _ _ (DE K)) rfl T.isinstance AZ (AA (pv 0) (AA (BE (v:=.ty "list") rfl T.list Bv rfl) AB)))) (AH (Ci (Gj PySem.F.plainAttrs_list PySem.F.slot_list_append PySem.F.type_list_append EG (pv 0) (AA AD AB)))) AO)))),?_⟩
  rcases O.kinds with⟨T,ty,k1,k2,k3,k4⟩|⟨a,N,d,rfl,rfl,Y,ra⟩|⟨a,N,d,rfl,rfl,Y,ra⟩|⟨a,kvs,ks,d,rfl,rfl,Y,hk,ra⟩
  ·refine⟨_,rfl,_,"dict",T,rfl,rfl,ty _,_,rfl,BK k1 ?_⟩
   refine⟨_,rfl,Az,fun p hp=>⟨_,p,T,rfl,AE,ty _,_,rfl,BK k2 ?_⟩⟩
   refine⟨_,rfl,_,"list",T,rfl,rfl,ty _,_,rfl,BK k3 ?_⟩
   have y:=AG.new (o:=.tup [V.ty "list",V.ty "tuple"]) hp
   exact q _ ((hw.up y).mono (Nat.le_refl _) (by lia)) (.of y)
  ·simp only[Pt.Nl]at hE
   simp only[Pt.FC]at X
   simp only[Pt.size]at hz
   simp only[Pt.JG]at q
   have la:=ra.length
   have lt:d.length<=Pt.AI d:=Pt.Cm d
   have hh:(Pt.lst d).FC=1+Pt.Fh d:=by simp only[Pt.FC]
   obtain⟨u',ea,wo⟩:=hw a (.lst N) _ trivial Y O (Nat.le_refl _)
   cases wo with
   |lst _ k hk=>
    obtain⟨us,ru,wt⟩:=Wt.lst ra k
    have lu:=ru.length
    refine⟨_,rfl,_,"dict","list",rfl,rfl,.n (.lst (.inl ea)),_,rfl,BK rfl ?_⟩
    refine⟨_,rfl,Az,fun p hp=>?_⟩
    have y:=AG.new (o:=.tup [V.ty "list",V.ty "tuple"]) hp
    have e1:=y _ _ ea
    have w1:=hw.up y
    refine⟨_,p,"list",rfl,AE,.n (.lst (.inl e1)),_,rfl,Bl rfl ?_⟩
    generalize upd H p (.tup [V.ty "list",V.ty "tuple"])=H1 at y e1 w1⊢
    refine .inl ⟨_,rfl,a,rfl,⟨_,Ah.of e1⟩,FH (K:=K) (xs:=N++List.replicate k (.int 77)) (fun i M g=>∃(R S:Option V),M=[some (.ref a),R,S]/\Wn G (Pt.lst d).FC (c+Pt.BU (us.take i)) g/\Hy G (Pt.Fh d) H1 g)
     ⟨none,none,rfl,w1,.refl⟩ (fun i M g _ ⟨_,_,_,_,f⟩=>Ah.of (f.at_ kf O (by lia) e1)) ?_ ?_⟩
    ·rintro i x M g hx ⟨R,S,rfl,J,L⟩
     obtain⟨u,m,vu⟩:=ru.get hx
     have z1:=wt.size m
     have z2:=wt.FC m
     refine⟨_,rfl,G,x,u,c+Pt.BU (us.take i),rfl,kf,vu,wt.Nl hE m,by lia,by lia,J.mono (by lia) (Nat.le_refl _),fun H2 w2 U=>?_⟩
     refine⟨_,_,rfl,?_,L.trans (U.mono z2)⟩
     rw[Pt.Ge m,<-Nat.add_assoc]
     exact J.next kf w2 U (by lia)
    ·rintro M g ⟨R,S,rfl,J,L⟩
     have z3:=wt.take (N++List.replicate k (V.int 77)).length
     have z4:=Pt.Di d (N++List.replicate k (V.int 77)).length
     have ei:=L.at_ kf O (by lia) e1
     refine⟨_,rfl,_,"list","list",rfl,rfl,.n (.lst (.inl ei)),_,rfl,Bl rfl ?_⟩
     refine⟨_,rfl,.inl ⟨rfl,_,Ah.of ei⟩,a,_,_,rfl,rfl,ei,Wx (by rw[List.length_append,List.length_replicate];lia),?_⟩
     rw[List.append_assoc,show List.replicate k (V.int 77)++[V.int 77]=List.replicate (k+1) (V.int 77)from(List.replicate_succ' ..).symm]
     exact q _ ((J.mono (Nat.le_refl _) (by lia)).change (u:=.lst N) trivial Y (.lst N (k+1) (by lia))) (((Hy.of y).trans (L.mono (by lia))).change (u:=.lst N) trivial Y O (Nat.le_refl _))
  ·simp only[Pt.Nl]at hE
   simp only[Pt.FC]at X
   simp only[Pt.size]at hz
   simp only[Pt.JG]at q
   have la:=ra.length
   have lt:d.length<=Pt.AI d:=Pt.Cm d
   have hh:(Pt.tup d).FC=1+Pt.Fh d:=by simp only[Pt.FC]
   have tq:∀{g:Hp},Wn G (Pt.tup d).FC (c+Pt.BU d) g->Bj K g a N:=fun w=>Y.imp (fun r=>by
    obtain⟨u',e,wo⟩:=w a (.tup N) _ trivial r O (Nat.le_refl _)
    cases wo
    exact .inl e) id
   have w0:=hw.mono (Nat.le_refl _) (show c<=c+Pt.BU d by lia)
   refine⟨_,rfl,_,"dict","tuple",rfl,rfl,.t (tq w0),_,rfl,BK rfl ?_⟩
   refine⟨_,rfl,Az,fun p hp=>?_⟩
   have y:=AG.new (o:=.tup [V.ty "list",V.ty "tuple"]) hp
   have w1:=hw.up y
   refine⟨_,p,"tuple",rfl,AE,.t (tq (w0.up y)),_,rfl,Bl rfl ?_⟩
   generalize upd H p (.tup [V.ty "list",V.ty "tuple"])=H1 at y w1⊢
   have mo:∀{g:Hp} {i:Nat},Wn G (Pt.tup d).FC (c+Pt.BU (d.take i)) g->Wn G (Pt.tup d).FC (c+Pt.BU d) g:=fun{g i} w=>w.mono (Nat.le_refl _) (by have:=Pt.Di d i;lia)
   refine .inr ⟨_,rfl,a,rfl,⟨_,tq (w1.mono (Nat.le_refl _) (by lia))⟩,Xt (K:=K) (xs:=N) (fun i M g=>∃(R S:Option V),M=[some (.ref a),R,S]/\Wn G (Pt.tup d).FC (c+Pt.BU (d.take i)) g/\Hy G (Pt.Fh d) H1 g)
    ⟨none,none,rfl,w1,.refl⟩ (fun i M g _ ⟨_,_,_,w,f⟩=>tq (mo w)) ?_ ?_⟩
   ·rintro i x M g hx ⟨R,S,rfl,J,L⟩
    obtain⟨u,m,vu⟩:=ra.get hx
    have wt:Wt d d:=fun _ _ h=>.inl h
    have z1:=wt.size m
    have z2:=wt.FC m
    refine⟨_,rfl,G,x,u,c+Pt.BU (d.take i),rfl,kf,vu,wt.Nl hE m,by lia,by lia,J.mono (by lia) (Nat.le_refl _),fun H2 w2 U=>?_⟩
    refine⟨_,_,rfl,?_,L.trans (U.mono z2)⟩
    rw[Pt.Ge m,<-Nat.add_assoc]
    exact J.next kf w2 U (by lia)
   ·rintro M g ⟨R,S,rfl,J,L⟩
    exact⟨_,rfl,_,"list","tuple",rfl,rfl,.t (tq (mo J)),_,rfl,BK rfl (q _ (mo J) ((Hy.of y).trans (L.mono (by lia))))⟩
  ·simp only[Pt.Nl]at hE
   simp only[Pt.FC]at X
   simp only[Pt.size]at hz
   simp only[Pt.JG]at q
   have la:=ra.length
   have lt:d.length<=Pt.AI d:=Pt.Cm d
   rw[List.length_map]at la
   have hh:(Pt.BM ks d).FC=1+Pt.Fh d:=by simp only[Pt.FC]
   obtain⟨u',ea,wo⟩:=hw a (.dK kvs) _ trivial Y O (Nat.le_refl _)
   cases wo with
   |BM _ j wd=>
    have nd:(kvs.map (·.1)).Nodup:=by
     rw[hk]
     exact List.Pairwise.map _ (fun a b h e=>h (Sum.inr.inj e)) hE.1
    obtain⟨us,ru,wt⟩:=Wt.BM ra wd
    have lu:=ru.length
    have wl:=wd.len
    refine⟨_,rfl,_,"dict","dict",rfl,rfl,.n (.dK (.inl ea)),_,rfl,Bl rfl ?_⟩
    refine⟨a,_,.inl ea,fun o Hf F=>⟨_,rfl,a,o,_,rfl,F.at_,?_⟩⟩
    have wf:Wn G (Pt.Fh d) c Hf:=fun b u t p r v z=>by
     have Z:b≠a:=fun e=>by
      subst e
      have:=Val.cR kf _ O v
      subst this
      lia
     rw[F.ne b Z]
     exact hw b u t p r v (by lia)
    refine Vn (fun i M g=>∃(R S:Option V),M=[some (.ref a),R,S]/\Wn G (Pt.Fh d) (c+Pt.BU (us.take i)) g/\Hy G (Pt.Fh d) Hf g)
     ⟨none,none,rfl,wf,.refl⟩ (fun i M g _ ⟨_,_,_,_,f⟩=>f.at_ kf O (by lia) F.at_) ?_ ?_
    ·rintro i key x M g hx ⟨R,S,rfl,J,L⟩
     obtain⟨u,m,vu⟩:=ru.get (show(j.map (·.2))[i]?=some x by rw[List.getElem?_map,hx];rfl)
     have z1:=wt.size m
     have z2:=wt.FC m
     have rd:Rd g a (.dK j):=.inr ⟨o,L.at_ kf O (by lia) F.at_⟩
     refine⟨_,rfl,_,rfl,a,x,rfl,.inl ⟨_,key,rd,rfl,(Pa (wd.nd nd) hx).symm⟩,G,x,u,c+Pt.BU (us.take i),rfl,kf,vu,wt.Nl hE.2 m,by lia,by lia,J.mono (by lia) (Nat.le_refl _),fun H2 w2 U=>?_⟩
     refine⟨_,_,rfl,?_,L.trans (U.mono z2)⟩
     rw[Pt.Ge m,<-Nat.add_assoc]
     exact J.next kf w2 U (by lia)
    ·rintro M g ⟨R,S,rfl,J,L⟩
     have z3:=wt.take j.length
     have z4:=Pt.Di d j.length
     refine⟨L.at_ kf O (by lia) F.at_,?_⟩
     have eb:back a H g a=some (.dK j):=by rw[JR];exact ea
     have wb:Wn G (Pt.BM ks d).FC (c+Pt.BU d) (back a H g):=fun b u t p r v z=>by
      by_cases Z:b=a
      ·subst Z
       obtain⟨u',e,w⟩:=hw b u t p r v z
       exact⟨u',by rw[JR];exact e,w.mono (by lia)⟩
      ·rw[Fv Z]
       rcases Nat.lt_or_ge (Pt.Fh d) t.FC with z'|z'
       ·obtain⟨u',e,w⟩:=hw b u t p r v z
        exact⟨u',L.at_ kf v z' (by rw[F.ne b Z];exact e),w.mono (by lia)⟩
       ·obtain⟨u',e,w⟩:=J b u t p r v z'
        exact⟨u',e,w.mono (by lia)⟩
     have fb:Hy G (Pt.BM ks d).FC H (back a H g):=fun b o' e=>by
      by_cases Z:b=a
      ·subst Z
       exact .inl (by rw[JR];exact e)
      ·rw[Fv Z]
       exact(L b o' (by rw[F.ne b Z];exact e)).imp id fun⟨u,t,p,r,v,z⟩=>⟨u,t,p,r,v,by lia⟩
     have w2:=wb.change (u:=.dK kvs) trivial Y (.BM _ _ wd.put)
     have U:=fb.change (u:=.dK kvs) (u':=.dK (putK j UU (.int 77))) trivial Y O (Nat.le_refl _)
     refine⟨_,rfl,a,_,rfl,Tc.k (k:=UU) eb (Wx (by lia)),?_⟩
     have e2:upd (back a H g) a (.dK (putK j UU (.int 77))) a=some (.dK (putK j UU (.int 77))):=AE
     generalize upd (back a H g) a (.dK (putK j UU (.int 77)))=H3 at w2 U e2⊢
     refine⟨_,rfl,Az,fun p hp=>?_⟩
     have y:=AG.new (o:=.tup [V.ty "list",V.ty "tuple"]) hp
     refine⟨_,p,"dict",rfl,AE,.n (.dK (.inl (y _ _ e2))),_,rfl,BK rfl ?_⟩
     exact⟨_,rfl,_,"list","dict",rfl,rfl,.n (.dK (.inl (y _ _ e2))),_,rfl,BK rfl (q _ (w2.up y) (U.trans (.of y)))⟩
theorem Po {f:Addr} {a:FuncData} (F:Dp K "_law_ruin" "_law_ruin" Kq f a) (T:Txt mg) (b:Binds K a ["_law_thing"] []) (m:mg "_law_ruin"=some (.ref f)):∀n:Nat,BX P w K mg base DH n f a ["_law_thing"] (Hq n)
 |0=>Ic (fun vs H Q E h=>by obtain⟨_,_,t,_,_,_,_,_,c,_⟩:=h;omega)
 |n+1=>ZL F T (Df.mk' F b m (Po F T b m n))
end
end Cg
namespace Cg
open PySem L2
section
variable{P:Program} {w:World} {K:ACh} [BA K] {mg:Str->Option Value} {base:Heap}
theorem XW:Ax ["_law_cells","_law_deep","_law_names_here","_law_cell_here","_law_kind","_law_more","_law_told","_law_lacking","_law_k","_law_way"] ["_law_cells","_law_deep","_law_names_here"] (AL Kr):=⟨rfl,rfl,rfl,by decide+kernel,rfl,by decide+kernel,by decide+kernel⟩
theorem ZM {n:Nat} {f:Addr} {fd:FuncData} (F:Dp K "_law_asks" "_law_asks" Kr f fd) (T:Txt mg) (Kz:Df P w K mg base "_law_mix" ["_law_cell_here","_law_k"] 1 Dr) (XX:Df P w K mg base "_law_doc" ["_law_cell_here","_law_k","_law_names_here"] 2 FZ) (XY:Df P w K mg base "_law_asks" ["_law_cells","_law_deep","_law_names_here"] n (KJ n)):BX P w K mg base DH (n+1) f fd ["_law_cells","_law_deep","_law_names_here"] (KJ (n+1)):=by
 obtain⟨Ub,Uc,O,S,U,X⟩:=Kz.ex
 obtain⟨fDoc,hR,Pp,Pq,Pr,Pu⟩:=XX.ex
 obtain⟨hU,hV,So,Sq,Sr,Ss⟩:=XY.ex
 refine F.ok XW (fun vs H Q E h=>?_) (fun LF A outer s H vs Q E hr h=>?_)
 ·obtain⟨l,d,nm,M,ys,rfl,hd,hl,lc,nl,hn,q⟩:=h
  rfl
 ·obtain⟨l,d,nm,M,ys,rfl,hd,hl,lc,nl,hn,q⟩:=h
  have nd:=XW.nd
  have hu:=Bw hr
  have L:Aj 1 _:=hr.mono (by first|decide|omega)
  have Ir:Aj 2 _:=hr.mono (by first|decide|omega)
  have Y:Aj n _:=hr.mono (by first|decide|omega)
  refine⟨_,(AF (Af (AQ (VY (Aj.DT hr)) (pv 0) (A' AB) (AU _)) (AH (AR (BF (AA Ag AB)))) AO)
   (AF (AX (i:=3) nd rfl (Or.inl rfl) (DY (Gj PySem.F.plainAttrs_list PySem.F.slot_list_pop PySem.F.type_list_pop Gk (pv 0) (AA AD AB)) (Gp (pv 0) AD ⟨rfl,rfl,rfl,rfl⟩)))
   (AF (AX (i:=4) nd rfl (Or.inl rfl) (AN Aq (AK X L rfl U O S .nil AV (AA (pv 3) (AA AD AB))) AD))
   (AF (AX (i:=5) nd rfl (Or.inl rfl) (Cj Bk (AN Aq (AK X L rfl U O S .nil AV (AA (pv 3) (AA AD AB))) AD) AD (AU _)))
   (AF (Af (PW.pt (ED (AQ Bk (pv 4) AD (AU _)) (Ed (PW.pt (CD (AQ Bk (pv 1) AD (AU _)) (CF (AQ Ld (pv 4) AD (AU _)))))))) (AH (AR (BF (AA Ag AB)))) AO)
   (AF (Af (AQ IZ (pv 4) AD (AU _)) (AH (AR (BF (AA Ag (AA (AK Pu Ir rfl Pr Pp Pq .nil AV (AA (pv 3) (AA AD (AA (pv 2) AB)))) AB))))) AO)
   (AF (Af (AQ IZ (pv 4) AD (AU _)) (AH (AR (BF (AA Ag (AA (BI (fv:=["_law_cells","_law_names_here","_law_deep"]) (fs:=[0,2,1]) rfl (.of (by rfl)) (BZ rfl T.range (AA (AN Aq (AK X L rfl U O S .nil AV (AA (pv 3) (AA AD AB))) AD) AB)) (fun _ _ _ _=>BR) (fun C s0 H0 fp=>(AK Ss Y rfl Sr So Sq .nil AV (AA (pv 1) (AA (AN IA (pv 3) AD) (AA (pv 2) AB)))))) (AA (pv 5) AB)))))) AO)
   (AF (AX (i:=6) nd rfl (Or.inl rfl) Jk)
   (AF (AX (i:=7) nd rfl (Or.inl rfl) (A' AB))
   (AF (DG PassesOwn.never rfl (BZ rfl T.range (AA AD AB)) (CP (i:=8) nd rfl (Or.inl rfl)) (AF (AX (i:=9) nd rfl (Or.inl rfl) (AN Aq (AN Bc (AK X L rfl U O S .nil AV (AA (pv 3) (AA AD AB))) (AS (r:=CJ K) Aw (A' (AA AD (AA AD (AA AD (AA AD AB))))) (pv 8) (fun _ _=>rfl))) AD))
   (AF (Af (AQ Ld (pv 9) AD (AU _)) (AH (Fp hu (pv 6) (AS (r:=CJ K) Aw (pv 2) (pv 8) (fun _ _=>rfl)) (AK Ss Y rfl Sr So Sq .nil AV (AA (pv 0) (AA (AN IA (pv 1) AD) (AA (pv 2) AB)))) rfl)) AO)
   (AH (Af (AQ Bk (pv 9) AD (AU _)) (AH (Ci (Gj PySem.F.plainAttrs_list PySem.F.slot_list_append PySem.F.type_list_append EG (pv 7) (AA (AS (r:=CJ K) Aw (pv 2) (pv 8) (fun _ _=>rfl)) AB)))) AO)))))
   (AH (AR (BF (AA Ag (AA (pv 6) (AA (AM (En rfl:BJ _ _ (KN K)) rfl T.sorted Co (AA (pv 7) AB)) (AA (pv 5) AB))))))))))))))))),?_⟩
  have jk:H l≠none:=by rw[hl];exact fun z=>nomatch z
  refine⟨_,rfl,Nat.zero_le _,fun pe MS=>⟨l,pe,_,rfl,rfl,Ah.of ((AG.new MS) _ _ hl),Ah.of AE,_,rfl,?_⟩⟩
  have se:=AG.new (o:=.lst []) MS
  generalize upd H pe (.lst [])=H1 at se⊢
  have dz:=se _ _ hl
  cases M with
  |nil=>
   refine Bq ⟨Bs,fun p B=>?_⟩
   have Xn:=se.free B
   have lp:l≠p:=fun z=>by rw[<-z,dz]at B;cases B
   exact q _ .any [] _ (.of (se.trans (AG.new B))) (by rw[AJ lp];exact dz) (Nat.le_refl _) (.tup (Bj.of (by rw[Al Xn,AE])) (.cons (.str _) .nil)) trivial (by simp[Ak.size]) (by simp[Ak.deep])
  |cons c M=>
   refine As ?_
   refine .inl ⟨_,rfl,.inl ⟨rfl,_,Ah.of dz⟩,l,_,0,0,.int c,rfl,rfl,dz,by decide,by decide,(Fn (by unfold QX;rw[if_pos (by decide),if_pos (by simp)];rfl)).1,rfl,?_⟩
   have u:Bt (some l) H (upd H1 l (.lst (M.map V.int))):=(Bt.of se).put
   have J:upd H1 l (.lst (M.map V.int)) l=some (.lst (M.map V.int)):=AE
   show QO _ _ _ _ (upd H1 l (.lst (M.map V.int)))
   generalize upd H1 l (.lst (M.map V.int))=H2 at u J⊢
   have eH:=hn.but u nl
   simp only[List.length_cons]at lc q
   have Ud:∀{Z H4:Hp} {v:V} {t:Pt},Val (nw H2 Z) v t->(∀b o,Z b=some o->H4 b=some o)->Val (nw H H4) v t:=fun h s=>h.up (BQ (fun b h=>u.Cq b h) fun b e _ h=>s b e h)
   refine⟨_,rfl,c,0,rfl,by decide,fun r0 _ _=>⟨_,_,rfl,rfl,(by show(0:Int)<_;decide),?_⟩⟩
   have m8:=DX r0 (n:=8) (by decide)
   generalize r0 % 8=kd at m8⊢
   refine⟨_,rfl,c,2,rfl,by decide,fun r2 _ _=>⟨_,_,rfl,rfl,(by show(0:Int)<_;decide),rfl,?_⟩⟩
   generalize decide (V.int (r2 % 2)=V.int 1)=mo
   dsimp only[Dm]
   have hW:∀p,H2 p=none->Q (.ref p) (upd H2 p (.tup [.str "any"])):=fun p B=>by
    have lp:l≠p:=fun z=>by rw[<-z,J]at B;cases B
    exact q _ .any M _ (u.trans (.of (AG.new B))) (by rw[AJ lp];exact J) (by lia) (.tup (Bj.of (by rw[Al (u.Cq p B),AE])) (.cons (.str _) .nil)) trivial (by simp[Ak.size]) (by simp[Ak.deep])
   refine Qq (t:=Gg _ _ _) (fun H5=>H2=H5/\(d=0->kd<=2)) (fun H5 ⟨e5,hk⟩=>?_) (fun key=>?_)
   rotate_left
   ·refine⟨_,rfl,rfl,_,rfl,By (fun _=>Bq ⟨Bs,hW⟩) (fun _=>⟨_,rfl,rfl,_,rfl,By (fun h2=>?_) (fun h2=>?_)⟩)⟩
    ·refine⟨_,rfl,_,_,rfl,rfl,_,rfl,By (fun _=>⟨Bs,hW⟩) (fun h3=>key H2 ⟨rfl,fun _=>?_⟩)⟩
     have:=of_decide_eq_false h3
     lia
    ·refine As (key H2 ⟨rfl,fun z=>?_⟩)
     have:=of_decide_eq_false h2
     subst z
     exact absurd rfl this
   subst e5
   refine⟨_,rfl,_,_,rfl,rfl,_,rfl,By (fun _=>?_) (fun h3=>?_)⟩
   ·refine⟨_,rfl,_,rfl,c,1,nm,ys,rfl,by decide,eH,fun v t Z s3 sm=>⟨Az,fun p B=>?_⟩⟩
    have JI:=s3.free B
    have lp:l≠p:=fun z=>by rw[<-z,J]at JI;cases JI
    refine q _ (.Ac t) M _ (u.trans (.of (s3.trans (AG.new B)))) (by rw[AJ lp];exact s3 _ _ J) (by lia) (.tup (Bj.of (by rw[Al (u.Cq p JI),AE])) (.cons (.str _) (.cons (Ud sm.val (AG.new B)) .nil))) ?_ (by simp[Ak.size]) (by simp[Ak.deep])
    simp only[Ak.ok]
    exact⟨sm.sm,sm.doc,by have:=sm.size;lia⟩
   have h3:=of_decide_eq_false h3
   obtain⟨d',rfl⟩:∃d',d=d'+1:=⟨d-1,by lia⟩
   have ed:(((d'+1:Nat):Int)-1)=(d':Int):=by lia
   refine⟨_,rfl,_,_,rfl,rfl,_,rfl,By (fun _=>?_) (fun _=>?_)⟩
   ·refine⟨_,rfl,c,1,rfl,by decide,fun r1 _ _=>⟨_,_,rfl,rfl,(by show(0:Int)<_;decide),?_⟩⟩
    have m4:=DX r1 (n:=4) (by decide)
    obtain⟨k4,yR⟩:∃k:Nat,r1 % 4=(k:Int):=⟨(r1 % 4).toNat,by lia⟩
    have yS:k4<4:=by lia
    rw[yR]
    refine⟨k4,rfl,by lia,by lia,?_⟩
    refine Cr (some l) k4 (fun i=>.int (0+(i:Int))) (fun i us Z=>∃(N:List Ak) (g:List Int),us=Ak.D' N/\Z l=some (.lst (g.map V.int))/\g.length<=M.length/\Ak.IE N/\Ak.AI N<=i+4*(M.length-g.length)/\Ak.AW N<=d'+1)
     (by lia) (fun D hD=>⟨[],M,rfl,by rw[AJ (fun z=>by rw[<-z,J]at hD;cases hD)];exact J,Nat.le_refl _,trivial,by simp[Ak.AI],by simp[Ak.AW]⟩) (fun i us Z D ws bt hD ⟨N,g,h1,h2,h3⟩=>⟨N,g,h1,by rw[AJ (fun z=>by rw[<-z,J]at hD;cases hD)];exact h2,h3⟩)
     (fun l' z=>by cases z;rw[J];exact fun z=>nomatch z) (fun i us Z hi s iv=>hi) (fun i us Z v H' hi s iv y=>⟨y.2,y.1⟩) (fun us Z s iv=>Nat.le_refl _) (fun i us Z R hi bt ⟨N,g,e1,e2,e3,e4,e5,e6⟩ lu k=>?_) (fun D Z ws us hD bt d2 lu vl ⟨N,g,e1,e2,e3,e4,e5,e6⟩=>?_)
    ·refine⟨_,rfl,_,rfl,_,_,rfl,rfl,_,rfl,l,d',nm,g,ys,by rw[ed];rfl,by lia,e2,by lia,nl,eH.but bt nl,fun v a QI H4 QJ La eI v4 yT yU yV=>k v a.pt H4 QJ v4 ⟨N++[a],QI,?_,La,by lia,Ak.Ep e4 (Ak.JU yT),?_,?_⟩⟩
     ·rw[Ak.Eo,e1];rfl
     ·rw[Ak.Ai,Ak.Fz];lia
     ·rw[Ak.Bi,Ak.F_];lia
    ·refine⟨_,rfl,Ad (show 3<=1000 by decide),fun p B=>?_⟩
     have JI:=bt.Cq p B
     have pD:D≠p:=fun z=>by rw[<-z,d2]at B;cases B
     have lp:l≠p:=fun z=>by rw[<-z,e2]at B;cases B
     subst e1
     refine q _ (.row N mo) g _ ((u.trans bt).trans (.of (AG.new B))) (by rw[AJ lp];exact e2) (by lia) (.tup (Bj.of (by rw[Al (u.Cq p JI),AE])) (.cons (.str _) (.cons (.lst (.inl (by rw[Al (u.Cq D hD),AJ pD];exact d2)) (vl.up (BQ (fun b h=>u.Cq b h) fun b e _ h=>AG.new B b e h))) (.cons (.bl _) .nil)))) e4 ?_ ?_
     ·simp only[Ak.size];lia
     ·simp only[Ak.deep];lia
   ·refine fun p6 uY=>?_
    have t6:=AG.new (o:=.dK []) uY
    have f6:upd H2 p6 (.dK []) p6=some (.dK []):=AE
    generalize upd H2 p6 (.dK [])=Z at t6 f6⊢
    refine⟨Nat.zero_le _,fun p7 hX=>?_⟩
    have t7:=AG.new (o:=.lst []) hX
    have f7:upd Z p7 (.lst []) p7=some (.lst []):=AE
    have hY:=t7 _ _ f6
    generalize upd Z p7 (.lst [])=H4 at t7 f7 hY⊢
    have QJ:Bt (some l) H H4:=u.trans (.of (t6.trans t7))
    have T0:GO H H4 l p6 p7 ys (d'+1) M.length 0 H4 [] [] [] M []:={
     n6:=u.Cq p6 uY
     n7:=u.Cq p7 (t6.free hX)
     o6:=by rw[hY];exact fun z=>nomatch z
     o7:=by rw[f7];exact fun z=>nomatch z
     ne:=fun z=>by rw[z,f7]at hY;cases hY
     hl:=jk
     h4:=QJ.Cq
     bt:=QJ
     dm:=fun b h=>h
     e6:=hY
     e7:=f7
     el:=(t6.trans t7) _ _ J
     le:=Nat.le_refl _
     lw:=rfl
     la:=rfl
     vl:=.nil
     ok:=trivial
     sz:=by simp[Ak.AI]
     dp:=by simp[Ak.AW]
     ik:=fun k h=>nomatch h
     il:=fun k h=>nomatch h
     nk:=.nil
     dj:=fun k h=>nomatch h
     l4:=Nat.le_refl _
     m4:=Nat.le_refl _
     nl:=.nil}
    refine⟨4,rfl,by decide,by decide,DN (lo:=0) (n:=4) (fun i σ Hi=>∃(ks:List Str) (N:List Ak) (ls:List Str) (g:List Int) (ws:List V) (o8 o9:Option V),σ=[some (.ref l),some (.int ((d'+1:Nat):Int)),some (.ref nm),some (.int c),some (.int kd),some (.bl mo),some (.ref p6),some (.ref p7),o8,o9]/\GO H H4 l p6 p7 ys (d'+1) M.length i Hi ks N ls g ws)
     ⟨[],[],[],M,[],none,none,rfl,T0⟩ ?_ ?_⟩
    ·rintro i σ Hi hi ⟨ks,N,ls,g,ws,o8,o9,rfl,TI⟩
     obtain⟨y,hy⟩:∃y,ys[i]?=some y:=⟨_,ACd (by rw[hn.len];exact hi)⟩
     have ay:OD (ys.map V.str) (0+(i:Int))=some (.str y):=by
      have e0:(0:Int)+(i:Int)=(i:Int):=by lia
      rw[e0]
      exact Av (by rw[List.getElem?_map,hy];rfl)
     obtain⟨v4,hZ,uZ⟩:=FQ (xs:=[V.int 1,V.int 4,V.int 16,V.int 64]) (i:=0+(i:Int)) (by lia) (by simp only[List.length_cons,List.length_nil];lia)
     have vb:∃m:Int,v4=.int m/\0<m/\m<1073741824:=by
      simp only[List.mem_cons,List.not_mem_nil,or_false]at uZ
      rcases uZ with rfl|rfl|rfl|rfl
      ·exact⟨_,rfl,by decide,by decide⟩
      ·exact⟨_,rfl,by decide,by decide⟩
      ·exact⟨_,rfl,by decide,by decide⟩
      ·exact⟨_,rfl,by decide,by decide⟩
     obtain⟨m,rfl,jm,jn⟩:=vb
     refine⟨_,rfl,c,1,rfl,by decide,fun r1 _ _=>⟨Ad (show 4<=1000 by decide),fun pl cK=>⟨_,rfl,pl,_,_,_,rfl,rfl,Ah.of AE,hZ,_,_,rfl,rfl,⟨jm,jn⟩,_,_,rfl,rfl,(by show(0:Int)<_;decide),?_⟩⟩⟩
     have I:=TI.up (AG.new (o:=.lst [V.int 1,V.int 4,V.int 16,V.int 64]) cK)
     generalize upd Hi pl (.lst [V.int 1,V.int 4,V.int 16,V.int 64])=Hj at I⊢
     clear TI
     generalize r1/m % 4=wy
     have mY:=hn.but I.bt nl
     dsimp only[Dm]
     refine⟨_,rfl,_,_,rfl,rfl,_,rfl,By (fun h1=>?_) (fun h1=>?_)⟩
     ·have h1:=of_decide_eq_true h1
      refine⟨_,rfl,_,rfl,_,_,rfl,rfl,_,rfl,l,d',nm,g,ys,by rw[ed];rfl,by lia,I.el,by have:=I.le;lia,nl,mY,fun v a QI H5 ua cq yW v5 yX yY yZ=>?_⟩
      obtain⟨g1,g2,ya⟩:=I.asked hy hn.nd ua cq yW v5 yX yY yZ
      have l4:=I.l4
      refine⟨_,rfl,_,rfl,_,rfl,nm,_,_,_,rfl,rfl,Ah.of (mY.but ua nl).at_,ay,p6,_,rfl,.inl ⟨_,Sum.inr y,g1,rfl,BN (by rw[DA I.lw];lia),rfl⟩,?_⟩
      rw[g2]
      refine⟨_,rfl,rfl,_,rfl,BK (decide_eq_false fun z=>?_) ⟨_,_,_,_,_,_,_,rfl,ya⟩⟩
      have:=V.int.inj z
      lia
     ·refine⟨_,rfl,rfl,_,rfl,By (fun _=>?_) (fun _=>⟨_,_,_,_,_,_,_,rfl,I.weak⟩)⟩
      have m4:=I.m4
      exact⟨_,rfl,.inl ⟨rfl,_,Ah.of I.e7⟩,_,rfl,_,rfl,nm,_,_,_,rfl,rfl,Ah.of mY.at_,ay,p7,_,_,rfl,rfl,I.e7,BN (by rw[List.length_map];lia),_,_,_,_,_,_,_,rfl,I.lX hy hn.nd⟩
    ·rintro σ Hi ⟨ks,N,ls,g,ws,o8,o9,rfl,TI⟩
     have l4:=TI.l4
     have m4:=TI.m4
     refine⟨_,rfl,_,rfl,p7,ls,rfl,Ah.of TI.e7,by lia,fun p8 ss H5 yb s5 f8 pm yc=>⟨_,rfl,Ad (show 4<=1000 by decide),fun p B=>?_⟩⟩
     have jc:=s5.free B
     have Xn:=TI.bt.Cq p jc
     have yd:p8≠p:=fun z=>by rw[<-z,f8]at B;cases B
     have h8:H p8=none:=TI.bt.Cq p8 yb
     have lp:l≠p:=fun z=>jk (by rw[z];exact Xn)
     have p6p:p6≠p:=fun z=>by have:=s5 _ _ TI.e6;rw[z,B]at this;cases this
     have s6:=s5.trans (AG.new (o:=.tup [.str "table",.ref p6,.ref p8,.bl mo]) B)
     refine q _ (.tab ks N ss mo) g _ (TI.bt.trans (.of s6)) (s6 _ _ TI.el) (by have:=TI.le;lia) (.tup (Bj.of (by rw[Al Xn,AE])) (.cons (.str _) (.cons (.BM (.inl (by rw[Al TI.n6];exact s6 _ _ TI.e6)) (Be TI.lw) ?_) (.cons (.lst (.inl (by rw[Al h8,AJ yd];exact f8)) ?_) (.cons (.bl _) .nil))))) ?_ ?_ ?_
     ·rw[CY TI.lw]
      exact TI.vl.up (BQ (fun b h=>TI.h4 b h) fun b e _ h=>s6 _ _ h)
     ·have gen:∀{G:Hp} (ls:List Str),Aa G (ls.map V.str) (ls.map Pt.str):=by
       intro G ls
       induction ls with
       |nil=>exact .nil
       |cons x r ih=>exact .cons (.str x) ih
      exact gen ss
     ·simp only[Ak.ok]
      exact⟨TI.la,TI.nk,fun k hk=>let⟨j,_,h2⟩:=TI.ik k hk;hn.nb k (ACg h2),by lia,⟨by rw[pm.length_eq];lia,pm.nodup_iff.mpr TI.nl,yc⟩,fun x hx=>TI.dj x (pm.mem_iff.mp hx),TI.ok⟩
     ·have:=TI.sz
      have:=TI.le
      simp only[Ak.size];lia
     ·have:=TI.dp
      simp only[Ak.deep];lia
theorem Px {f:Addr} {d:FuncData} (F:Dp K "_law_asks" "_law_asks" Kr f d) (T:Txt mg) (b:Binds K d ["_law_cells","_law_deep","_law_names_here"] []) (m:mg "_law_asks"=some (.ref f)) (a:Df P w K mg base "_law_mix" ["_law_cell_here","_law_k"] 1 Dr) (c:Df P w K mg base "_law_doc" ["_law_cell_here","_law_k","_law_names_here"] 2 FZ):∀n:Nat,BX P w K mg base DH n f d ["_law_cells","_law_deep","_law_names_here"] (KJ n)
 |0=>Ic (fun vs H Q E h=>by obtain⟨_,_,_,_,_,_,e,_⟩:=h;omega)
 |n+1=>ZM F T a c (Df.mk' F b m (Px F T b m a c n))
end
end Cg
namespace Cg
open PySem L2
section
variable{P:Program} {w:World} {K:ACh} [BA K] {mg:Str->Option Value} {base:Heap}
theorem aU:Ax ["_law_asks_here","_law_cells","_law_names_here","_law_cell_here","_law_some","_law_doc_here","_law_k","_law_name"] ["_law_asks_here","_law_cells","_law_names_here"] (AL RZ):=⟨rfl,rfl,rfl,by decide+kernel,rfl,by decide+kernel,by decide+kernel⟩
theorem cu {n:Nat} {f:Addr} {fd:FuncData} (F:Dp K "_law_fit" "_law_fit" RZ f fd) (T:Txt mg) (Kz:Df P w K mg base "_law_mix" ["_law_cell_here","_law_k"] 1 Dr) (XX:Df P w K mg base "_law_doc" ["_law_cell_here","_law_k","_law_names_here"] 2 FZ) (K':Df P w K mg base "_law_copy" ["_law_thing"] 6 (Cc 6)) (cv:Df P w K mg base "_law_fit" ["_law_asks_here","_law_cells","_law_names_here"] n (Ov n)):BX P w K mg base DH (n+1) f fd ["_law_asks_here","_law_cells","_law_names_here"] (Ov (n+1)):=by
 obtain⟨Ub,Uc,LW,LX,LY,LZ⟩:=Kz.ex
 obtain⟨fDoc,hR,Pp,Pq,Pr,Pu⟩:=XX.ex
 obtain⟨XR,XS,MT,MU,MV,MW⟩:=K'.ex
 obtain⟨mZ,ma,ZN,ZO,ZP,ZQ⟩:=cv.ex
 refine F.ok aU (fun vs H Q E h=>?_) (fun LF A outer s H vs Q E hr h=>?_)
 ·obtain⟨w,a0,l,nm,cs,ys,rfl,hw,Y,hd,za,hl,lc,nl,hn,q⟩:=h
  rfl
 ·obtain⟨w,a0,l,nm,cs,ys,rfl,hw,Y,hd,za,hl,lc,nl,hn,q⟩:=h
  have nd:=aU.nd
  have hu:=Bw hr
  have Iu:Aj 1 _:=hr.mono (by first|decide|omega)
  have Ir:Aj 2 _:=hr.mono (by first|decide|omega)
  have IY:Aj 6 _:=hr.mono (by first|decide|omega)
  have Su:Aj n _:=hr.mono (by first|decide|omega)
  refine⟨_,(AF (AX (i:=3) nd rfl (Or.inr rfl) AD)
   (AF (Af (AQ (FP (Aj.DT hr)) (pv 1) (A' AB) (AU _)) (AH (AX (i:=3) nd rfl (Or.inr rfl) (DY (Gj PySem.F.plainAttrs_list PySem.F.slot_list_pop PySem.F.type_list_pop Gk (pv 1) (AA AD AB)) (Gp (pv 1) AD ⟨rfl,rfl,rfl,rfl⟩)))) AO)
   (AF (Af (AQ Bk (AS (r:=BD K) AY (pv 0) AD (fun _ _=>rfl)) Ag (AU _)) (AH (AR (AK Pu Ir rfl Pr Pp Pq .nil AV (AA (pv 3) (AA AD (AA (pv 2) AB)))))) AO)
   (AF (Af (AQ Bk (AS (r:=BD K) AY (pv 0) AD (fun _ _=>rfl)) Ag (AU _)) (AH (AR (AK MW IY rfl MV MT MU .nil AV (AA (AS (r:=BD K) AY (pv 0) AD (fun _ _=>rfl)) AB)))) AO)
   (AF (Eh (i:=4) (fv:=["_law_cell_here","_law_names_here"]) (fs:=[3,2]) rfl (.of (by rfl)) nd rfl (Or.inl rfl) (BZ rfl T.range (AA (AN Aq (AK LZ Iu rfl LY LW LX .nil AV (AA (pv 3) (AA AD AB))) AD) AB)) (fun _ _ _ _=>BR) (fun C s0 H0 fp=>(AK Pu Ir rfl Pr Pp Pq .nil AV (AA (pv 1) (AA (AN Bp AD (pv 0)) (AA (pv 2) AB))))))
   (AF (Af (AQ Bk (AS (r:=BD K) AY (pv 0) AD (fun _ _=>rfl)) Ag (AU _)) (AH (AR (AN Qc (BI (fv:=["_law_cells","_law_names_here"]) (fs:=[1,2]) rfl (.of (by rfl)) (Br (AS (r:=BD K) AY (pv 0) AD (fun _ _=>rfl))) (fun _ _ _ _=>BR) (fun C s0 H0 fp=>(AK ZQ Su rfl ZP ZN ZO .nil AV (AA (pv 0) (AA (pv 1) (AA (pv 2) AB)))))) (AN VG (pv 4) (BB Le rfl T.int Zw (AA (AS (r:=BD K) AY (pv 0) AD (fun _ _=>rfl)) AB)))))) AO)
   (AF (AX (i:=5) nd rfl (Or.inl rfl) (BB (Cb rfl) rfl T.dict CM (AA (BI (fv:=["_law_cells","_law_names_here","_law_asks_here"]) (fs:=[1,2,0]) rfl (.of (by rfl)) (Br (AM (Cn rfl) rfl T.sorted Co (AA (AS (r:=BD K) AY (pv 0) AD (fun _ _=>rfl)) AB))) (fun _ _ _ _=>BR) (fun C s0 H0 fp=>(BF (AA (pv 0) (AA (AK ZQ Su rfl ZP ZN ZO .nil AV (AA (CQ hu (AS (r:=BD K) AY (pv 3) AD (fun _ _=>rfl)) (pv 0) (fun _ _=>rfl)) (AA (pv 1) (AA (pv 2) AB)))) AB))))) AB)))
   (AF (DG PassesOwn.never rfl (BZ rfl T.range (AA (AN FI (AM Ae rfl T.len PySem.boot_len (AA (pv 4) AB)) (BB Le rfl T.int Zw (AA (AS (r:=BD K) AY (pv 0) AD (fun _ _=>rfl)) AB))) AB)) (CP (i:=6) nd rfl (Or.inl rfl)) (AF (AX (i:=7) nd rfl (Or.inl rfl) (AS (r:=CJ K) Aw (pv 2) (AN Aq (AN Bp (AK LZ Iu rfl LY LW LX .nil AV (AA (pv 3) (AA AD AB))) (pv 6)) AD) (fun _ _=>rfl)))
   (AH (Af (PW.pt (CD (Jc (Fo hu (pv 7) (AS (r:=BD K) AY (pv 0) AD (fun _ _=>rfl)))) (CF (AQ (Ml:Dy _ _ (fk K true)) (pv 7) (AS (r:=BD K) AY (pv 0) AD (fun _ _=>rfl)) rfl)))) (AH (Fp hu (pv 5) (pv 7) (AS (r:=CJ K) Aw (pv 4) (pv 6) (fun _ _=>rfl)) rfl)) AO))))
   (AH (AR (pv 5))))))))))),?_⟩
  have jk:H l≠none:=by rw[hl];exact fun z=>nomatch z
  refine aC ?_
  refine FU (t:=Gg _ _ _) (fun σ' H1=>∃(c:Int) (JJ:List Int),σ'=[some w,some (.ref l),some (.ref nm),some (.int c),none,none,none,none]/\Bt (some l) H H1/\H1 l=some (.lst (JJ.map V.int))/\JJ.length<=cs.length) (fun σ' H1 ⟨c,JJ,es,L,O,h_⟩=>?_) (fun key=>?_)
  rotate_left
  ·refine⟨_,rfl,Nat.zero_le _,fun pe MS=>⟨l,pe,_,rfl,rfl,Ah.of ((AG.new MS) _ _ hl),Ah.of AE,_,rfl,?_⟩⟩
   have se:=AG.new (o:=.lst []) MS
   generalize upd H pe (.lst [])=H1 at se⊢
   have O:=se _ _ hl
   cases cs with
   |nil=>exact As (key _ _ ⟨1001,[],rfl,.of se,O,Nat.le_refl _⟩)
   |cons c cs=>
    refine Bq ?_
    exact .inl ⟨_,rfl,.inl ⟨rfl,_,Ah.of O⟩,l,_,0,0,.int c,rfl,rfl,O,by decide,by decide,(Fn (by unfold QX;rw[if_pos (by decide),if_pos (by simp)];rfl)).1,rfl,key _ _ ⟨c,cs,rfl,(Bt.of se).put,AE,by simp⟩⟩
  subst es
  have Py:=hn.but L nl
  have md:=hw.up L.Du
  obtain⟨U,w0,rest,rfl,Xo,kinds⟩:=md.ak
  have Z:=Xo.up CG
  rcases kinds with⟨rfl,rfl,rfl⟩|⟨d,u,rfl,rfl,rfl,Nn⟩|⟨xs,m,u,rfl,rfl,rfl,Nn⟩|⟨ks,xs,ls,m,u,z,rfl,rfl,rfl,Nn,hz⟩
  ·refine⟨_,rfl,U,_,0,_,rfl,rfl,Z,EC,rfl,_,rfl,Bl (by decide+kernel) ?_⟩
   refine⟨_,rfl,_,rfl,c,3,nm,ys,rfl,by decide,Py,fun v t X s2 sm=>q v t JJ X (L.trans (.of s2)) (s2 _ _ O) h_ (sm.val.up (BQ (fun b h=>L.Cq b h) fun b e _ h=>h)) sm.doc ?_ ?_ ?_⟩
   ·have:=sm.size;simp only[Ak.size];lia
   ·have:=sm.deep;simp only[Ak.deep];lia
   ·have:=Pt.Ce t sm.doc;have:=sm.size;lia
  ·refine⟨_,rfl,U,_,0,_,rfl,rfl,Z,EC,rfl,_,rfl,BK (by decide+kernel) ?_⟩
   refine⟨_,rfl,U,_,0,_,rfl,rfl,Z,EC,rfl,_,rfl,Bl (by decide+kernel) ?_⟩
   simp only[Ak.ok]at Y
   have dd:=Y.1.Yg
   refine⟨_,rfl,U,_,1,u,rfl,rfl,Z,Eb,u,d,rfl,Nn.up CG,Pt.Gz d Y.2.1 (by lia),by lia,fun v X s2 v2=>q v d JJ X (L.trans (.of s2)) (s2 _ _ O) h_ (v2.up (BQ (fun b h=>L.Cq b h) fun b e _ h=>h)) Y.2.1 ?_ ?_ ?_⟩
   ·simp only[Ak.size];lia
   ·simp only[Ak.deep];lia
   ·have:=Pt.Ce d Y.2.1;lia
  ·skip
   refine⟨_,rfl,U,_,0,_,rfl,rfl,Z,EC,rfl,_,rfl,BK (by decide+kernel) ?_⟩
   refine⟨_,rfl,U,_,0,_,rfl,rfl,Z,EC,rfl,_,rfl,BK (by decide+kernel) ?_⟩
   refine⟨_,rfl,c,3,rfl,by decide,fun r3 _ _=>⟨_,_,rfl,rfl,(by show(0:Int)<_;decide),?_⟩⟩
   have m3:=DX r3 (n:=3) (by decide)
   obtain⟨k3,me⟩:∃k:Nat,r3 % 3=(k:Int):=⟨(r3 % 3).toNat,by lia⟩
   have mf:k3<3:=by lia
   rw[me]
   refine⟨k3,rfl,by lia,by lia,?_⟩
   refine Cr none k3 (fun i=>.int (0+(i:Int))) (fun i B X=>EB B) (by lia) (fun D hD u h=>nomatch h) (fun i B X D ws J hD iv=>iv) (fun l' z=>nomatch z) (fun i B X hi s iv=>hi) (fun i B X v H' hi s iv y=>⟨y.2,y.1⟩) (fun B X s iv=>Nat.le_refl _) (fun i B X R hi J iv lu k=>?_) (fun D4 X M eJ iA mh d4 ye iB iC=>?_)
   ·have e0:(4:Int)+(0+(i:Int))=((4+i:Nat):Int):=by lia
    refine⟨_,rfl,_,rfl,_,_,rfl,rfl,_,rfl,c,4+i,nm,ys,by rw[e0];rfl,by lia,Py.up J.same,fun v t g s3 sm=>k v t g (.of s3) sm.val ?_⟩
    intro x hx
    rcases List.mem_append.mp hx with hx|hx
    ·exact iv x hx
    ·rw[List.mem_singleton.mp hx];exact⟨sm.doc,sm.size,sm.deep⟩
   have S:=mh.same
   have iD:Bt (some l) H X:=L.trans (.of S)
   have XP:=S _ _ O
   have XM:=Z.up S
   have eH:=Py.up S
   have yf:=iB.length
   refine⟨_,rfl,U,_,0,_,rfl,rfl,XM,EC,rfl,_,rfl,Bl (by decide+kernel) ?_⟩
   simp only[Ak.ok]at Y
   simp only[Ak.deep]at hd
   simp only[Ak.size]at za
   have mi:=Ak.Cm xs
   cases Nn with
   |@lst a vs _ Pz ra=>
    have la:=ra.length
    rw[Ak.BG,List.length_map]at la
    have eM:Rd H1 a (.lst vs):=Pz.up (CG _)
    have al:a≠l:=fun z=>by
     subst z
     rcases Pz with h|⟨o,h⟩<;>(unfold Du at h;rw[if_pos rfl]at h;cases h)
    have MX:∀{g:Hp},Bt (some l) H1 g->Rd g a (.lst vs):=fun J=>eM.up fun o e=>J.keep a o (fun z=>al (ACf z).symm) e
    have b12:Bt (some l) H1 X:=.of S
    refine⟨_,rfl,U,_,1,_,rfl,rfl,XM,Eb,a,rfl,⟨_,.inl (MX b12)⟩,?_⟩
    refine Cr (some l) xs.length (fun i=>vs.getD i .BV) (fun i B g=>∃I:List Int,g l=some (.lst (I.map V.int))/\I.length<=JJ.length/\Pt.CU B/\Pt.AI B<=10*Ak.AI (xs.take i)/\Pt.AW B<=Ak.AW xs+2/\Pt.CH B<=61)
     (by lia) (fun D hD=>⟨JJ,by rw[AJ (fun z=>by rw[<-z,XP]at hD;cases hD)];exact XP,Nat.le_refl _,trivial,by simp[Pt.AI],by simp[Pt.AW],by simp[Pt.CH]⟩) (fun i B g D ws J hD ⟨I,h1,h2⟩=>⟨I,by rw[AJ (fun z=>by rw[<-z,XP]at hD;cases hD)];exact h1,h2⟩)
     (fun l' z=>by cases z;rw[XP];exact fun z=>nomatch z) (fun i B g hi s iv=>⟨_,_,.inl (MX (b12.trans s)),ACd (by lia)⟩) (fun i B g v H' hi s iv y=>?_) (fun B g s iv=>⟨_,.inl (MX (b12.trans s)),by lia⟩) (fun i B g R hi J ⟨I,e2,e3,e4,e5,e6,e7⟩ lu k=>?_) (fun D g ws B hD J d2 lu vl ⟨I,e2,e3,e4,e5,e6,e7⟩=>?_)
    ·obtain⟨e,y⟩:=y
     refine⟨?_,e⟩
     have:=y _ (.inl (MX (b12.trans s)))
     rw[List.getD_eq_getElem?_getD,this]
     rfl
    ·obtain⟨x,hx⟩:∃x,vs[i]?=some x:=⟨_,ACd (by lia)⟩
     obtain⟨px,g1,vx⟩:=ra.get hx
     obtain⟨ax,JK⟩:∃ax,xs[i]?=some ax:=⟨_,ACd hi⟩
     rw[Ak.BG,List.getElem?_map,JK]at g1
     cases g1
     have m1:=ACg JK
     have d1:=Ak.Ao m1
     have z1:=Ak.Bh m1
     have ev:vs.getD i .BV=x:=by rw[List.getD_eq_getElem?_getD,hx];rfl
     rw[ev]
     refine⟨_,rfl,_,rfl,_,rfl,x,ax,l,nm,I,ys,rfl,vx.up (b12.trans J).Du,Ak.Gy Y _ m1,by lia,by lia,e2,by lia,nl,eH.but J nl,fun v t QI H4 QJ La eI v4 mj z4 p4 w4=>k v t H4 QJ v4 ⟨QI,La,by lia,Pt.Dv e4 ⟨mj,trivial⟩,?_,?_,by rw[Pt.DM];simp only[Pt.CH];lia⟩⟩
     ·rw[Pt.Ai,List.take_add_one,JK,Ak.Ai]
      simp only[Pt.AI,Option.toList,Ak.AI]
      lia
     ·rw[Pt.Bi]
      simp only[Pt.AW]
      lia
    ·rw[List.take_length]at e5
     have d43:=J.keep D4 _ (fun z=>by rw[<-ACf z,O]at iA;cases iA) d4
     have t3:=Xo.jZ ((Bt.of S).trans J)
     refine⟨_,rfl,_,rfl,U,_,2,_,rfl,rfl,t3,at2,.inr ⟨m,rfl,?_⟩⟩
     have yU:=iC.size
     have yV:=iC.deep
     have lv:=vl.length
     have lu5:=Pt.Cm B
     have fin:∀(kk:Nat),kk<=1->Xu fo (fun σ H Q=>Q (V.ref D) H) (fun σ H Q=>fq (V.ref D4) (V.int (kk:Int)) H Q) [] g Q:=fun kk yg=>by
      refine⟨D4,(kk:Int),M,rfl,rfl,d43,by lia,by lia,Ad (by rw[Int.toNat_natCast];have:M.length*kk<=M.length*1:=Nat.mul_le_mul_left _ yg;lia),fun p hp=>?_⟩
      rw[Int.toNat_natCast]
      obtain⟨wr,ur,rp,ru⟩:∃(wr:List V) (ur:List Pt),(List.replicate kk M).flatten=wr/\(wr=M/\ur=eJ∨wr=[]/\ur=[]):=by
       have:kk=0∨kk=1:=by lia
       rcases this with rfl|rfl
       ·exact⟨[],[],by simp,.inr ⟨rfl,rfl⟩⟩
       ·exact⟨M,eJ,by simp,.inl ⟨rfl,rfl⟩⟩
      rw[rp]
      have lr:wr.length<=2:=by
       rcases ru with⟨rfl,rfl⟩|⟨rfl,rfl⟩
       ·lia
       ·simp
      have z4:Pt.AI ur<=8:=by
       rcases ru with⟨rfl,rfl⟩|⟨rfl,rfl⟩
       ·lia
       ·simp[Pt.AI]
      have y4:Pt.AW ur<=2:=by
       rcases ru with⟨rfl,rfl⟩|⟨rfl,rfl⟩
       ·lia
       ·simp[Pt.AW]
      have x4:Pt.CU ur:=by
       rcases ru with⟨rfl,rfl⟩|⟨rfl,rfl⟩
       ·exact iC.lY
       ·trivial
      have v4:Aa (nw H1 X) wr ur:=by
       rcases ru with⟨rfl,rfl⟩|⟨rfl,rfl⟩
       ·exact iB
       ·exact .nil
      have sp:=AG.new (o:=.lst wr) hp
      have fp:upd g p (.lst wr) p=some (.lst wr):=AE
      generalize upd g p (.lst wr)=H4 at sp fp⊢
      refine⟨D,p,_,_,rfl,rfl,sp _ _ d2,fp,Ad (by lia),fun p2 JI=>?_⟩
      have jo:=sp.trans (AG.new (o:=.lst (ws++wr)) JI)
      have mm:=iD.Cq p2 (J.Cq p2 (sp.free JI))
      refine q _ (.lst (B++ur)) I _ ((iD.trans J).trans (.of jo)) (jo _ _ e2) (by lia) (.lst (.inl (by rw[Al mm,AE])) ((vl.up (BQ (fun b h=>iD.Cq b h) fun b e h1 h2=>jo _ _ h2)).append (v4.up (BQ (fun b h=>L.Cq b h) fun b e h1 h2=>jo _ _ (J.keep b e (fun z=>by rw[<-ACf z,O]at h1;cases h1) h2))))) (Pt.Dv e4 x4) ?_ ?_ ?_
      ·simp only[Pt.size,Ak.size];rw[Pt.Ai];lia
      ·simp only[Pt.deep,Ak.deep];rw[Pt.Bi];lia
      ·have:=Pt.Em ur x4;simp only[Pt.wide];rw[Pt.DM];lia
     cases m with
     |true=>exact fin 1 (by decide)
     |false=>exact fin 0 (by decide)
  ·skip
   refine⟨_,rfl,U,_,0,_,rfl,rfl,Z,EC,rfl,_,rfl,BK (by decide+kernel) ?_⟩
   refine⟨_,rfl,U,_,0,_,rfl,rfl,Z,EC,rfl,_,rfl,BK (by decide+kernel) ?_⟩
   refine⟨_,rfl,c,3,rfl,by decide,fun r3 _ _=>⟨_,_,rfl,rfl,(by show(0:Int)<_;decide),?_⟩⟩
   have m3:=DX r3 (n:=3) (by decide)
   obtain⟨k3,me⟩:∃k:Nat,r3 % 3=(k:Int):=⟨(r3 % 3).toNat,by lia⟩
   have mf:k3<3:=by lia
   rw[me]
   refine⟨k3,rfl,by lia,by lia,?_⟩
   refine Cr none k3 (fun i=>.int (0+(i:Int))) (fun i B X=>EB B) (by lia) (fun D hD u h=>nomatch h) (fun i B X D ws J hD iv=>iv) (fun l' z=>nomatch z) (fun i B X hi s iv=>hi) (fun i B X v H' hi s iv y=>⟨y.2,y.1⟩) (fun B X s iv=>Nat.le_refl _) (fun i B X R hi J iv lu k=>?_) (fun D4 X M eJ iA mh d4 ye iB iC=>?_)
   ·have e0:(4:Int)+(0+(i:Int))=((4+i:Nat):Int):=by lia
    refine⟨_,rfl,_,rfl,_,_,rfl,rfl,_,rfl,c,4+i,nm,ys,by rw[e0];rfl,by lia,Py.up J.same,fun v t g s3 sm=>k v t g (.of s3) sm.val ?_⟩
    intro x hx
    rcases List.mem_append.mp hx with hx|hx
    ·exact iv x hx
    ·rw[List.mem_singleton.mp hx];exact⟨sm.doc,sm.size,sm.deep⟩
   have S:=mh.same
   have iD:Bt (some l) H X:=L.trans (.of S)
   have XP:=S _ _ O
   have XM:=Z.up S
   have eH:=Py.up S
   have yf:=iB.length
   refine⟨_,rfl,U,_,0,_,rfl,rfl,XM,EC,rfl,_,rfl,BK (by decide+kernel) ?_⟩
   simp only[Ak.ok]at Y
   simp only[Ak.deep]at hd
   simp only[Ak.size]at za
   have mi:=Ak.Cm xs
   obtain⟨o1,o2,o3,o4,o5,o6,o7⟩:=Y
   cases Nn with
   |@BM a kvs _ _ Pz JW ra=>
    cases hz with
    |@lst lz iE _ iF rl=>
     have kl:kvs.length=ks.length:=by have:=congrArg List.length JW;simpa using this
     have eM:Rd H1 a (.dK kvs):=Pz.up (CG _)
     have al:a≠l:=fun z=>by
      subst z
      rcases Pz with h|⟨o,h⟩<;>(unfold Du at h;rw[if_pos rfl]at h;cases h)
     have MX:∀{g:Hp},Bt (some l) H1 g->Rd g a (.dK kvs):=fun J=>eM.up fun o e=>J.keep a o (fun z=>al (ACf z).symm) e
     have jq:Rd H1 lz (.lst iE):=iF.up (CG _)
     have zl:lz≠l:=fun z=>by
      subst z
      rcases iF with h|⟨o,h⟩<;>(unfold Du at h;rw[if_pos rfl]at h;cases h)
     have ub:∀{g:Hp},Bt (some l) H1 g->Rd g lz (.lst iE):=fun J=>jq.up fun o e=>J.keep lz o (fun z=>zl (ACf z).symm) e
     have aV:∀{g:Hp},Bt (some l) H1 g->Bj K g U [.str "table",.ref a,.ref lz,.bl m]:=fun J=>Xo.jZ J
     have cx:iE=ls.map V.str:=by
      have gen:∀{G:Hp} {vs:List V} {ls:List Str},Aa G vs (ls.map Pt.str)->vs=ls.map V.str:=by
       intro G vs ls
       induction ls generalizing vs with
       |nil=>intro h;cases h;rfl
       |cons x r ih=>
        intro h
        cases h with
        |cons h1 h2=>cases h1;rw[List.map_cons,ih h2]
      exact gen rl
     have b12:Bt (some l) H1 X:=.of S
     refine⟨_,rfl,U,_,1,_,rfl,rfl,XM,Eb,a,kvs,ks,rfl,MX b12,JW,by lia,fun ps ss aW ZR XZ Xp pm st=>?_⟩
     have bb:Bt (some l) H1 aW:=b12.trans (.of XZ)
     have Ht:=XZ _ _ XP
     obtain⟨as,Ue⟩:=IK o1 (ss:=ss) fun k hk=>pm.mem_iff.mp hk
     have eN:=Bx o1 o2 pm Ue
     have cU:as.length=ss.length:=by have:=congrArg List.length Ue;simpa using this.symm
     have uc:=pm.length_eq
     have ud:ss.Nodup:=pm.nodup_iff.mpr o2
     refine⟨ps,rfl,⟨_,Ah.of Xp⟩,?_⟩
     have iG:l≠ps:=fun z=>by rw[<-z,XP]at ZR;cases ZR
     have Xa:∀{g:Hp},Bt (some l) aW g->g ps=some (.lst (ss.map V.str)):=fun J=>J.keep _ _ (fun z=>iG (ACf z)) Xp
     have li:∀i,i<ss.length->(ss.map V.str)[i]?=some (.str (ss.getD i "")):=fun i hi=>by
      rw[List.getElem?_map,ACd hi,List.getD_eq_getElem?_getD,ACd hi]
      rfl
     refine Fx (some l) ss.length (fun i=>.str (ss.getD i "")) ss (fun i B g=>∃I:List Int,g l=some (.lst (I.map V.int))/\I.length<=JJ.length/\Pt.CU B/\Pt.AI B<=10*Ak.AI (as.take i)/\Pt.AW B<=Ak.AW xs+2/\Pt.CH B<=61)
      (by lia) (fun D hD=>⟨JJ,by rw[AJ (fun z=>by rw[<-z,Ht]at hD;cases hD)];exact Ht,Nat.le_refl _,trivial,by simp[Pt.AI],by simp[Pt.AW],by simp[Pt.CH]⟩) (fun i B g D e J hD ⟨I,h1,h2⟩=>⟨I,by rw[AJ (fun z=>by rw[<-z,Ht]at hD;cases hD)];exact h1,h2⟩)
      (fun l' z=>by cases z;rw[Ht];exact fun z=>nomatch z) (fun i B g hi s iv=>⟨_,_,Ah.of (Xa s),li i hi⟩) (fun i B g v H' hi s iv y=>?_) (fun B g s iv=>⟨_,Ah.of (Xa s),by rw[List.length_map];exact Nat.le_refl _⟩) (fun i B g R hi J ⟨I,e2,e3,e4,e5,e6,e7⟩ lu k=>?_) (fun D g ts ws B hD J d2 lt lu tt vl ⟨I,e2,e3,e4,e5,e6,e7⟩=>?_)
     ·obtain⟨e,y⟩:=y
      have:=y _ (Ah.of (Xa s))
      rw[li i hi]at this
      exact⟨(ACf this).symm,e⟩
     ·have hk:ss[i]?=some (ss.getD i ""):=by rw[List.getD_eq_getElem?_getD,ACd hi];rfl
      obtain⟨ax,JK⟩:∃ax,as[i]?=some ax:=⟨_,ACd (by lia)⟩
      have mn:lk ks xs (ss.getD i "")=some ax:=by
       have:=congrArg (fun z=>z[i]?) Ue
       simp only[List.getElem?_map,hk,JK]at this
       exact ACf this
      have aX:lk ks (Ak.D' xs) (ss.getD i "")=some ax.pt:=by rw[Ak.BG,FX,mn];rfl
      rcases Val.C' JW ra (ss.getD i "")with⟨x,tx,k1,k2,vx⟩|⟨_,k2⟩
      ·have iH:tx=ax.pt:=ACf (k2.symm.trans aX)
       subst iH
       have m1:=eN.mem_iff.mp (ACg JK)
       have d1:=Ak.Ao m1
       have z1:=Ak.Bh m1
       refine⟨_,rfl,_,rfl,U,_,1,_,rfl,rfl,aV (bb.trans J),Eb,_,rfl,a,x,rfl,.inl ⟨kvs,Sum.inr (ss.getD i ""),MX (bb.trans J),rfl,k1.symm⟩,_,rfl,_,rfl,x,ax,l,nm,I,ys,rfl,vx.up (bb.trans J).Du,Ak.Gy o7 _ m1,by lia,by lia,e2,by lia,nl,(eH.up XZ).but J nl,fun v t QI H4 QJ La eI v4 mj z4 p4 w4=>⟨Az,fun pt iI=>k v t H4 pt QJ v4 ⟨QI,La,by lia,Pt.Dv e4 ⟨mj,trivial⟩,?_,?_,by rw[Pt.DM];simp only[Pt.CH];lia⟩ iI⟩⟩
       ·rw[Pt.Ai,List.take_add_one,JK,Ak.Ai]
        simp only[Pt.AI,Option.toList,Ak.AI]
        lia
       ·rw[Pt.Bi]
        simp only[Pt.AW]
        lia
      ·exact absurd (k2.symm.trans aX) (fun z=>nomatch z)
     ·rw[<-cU,List.take_length,Ej eN]at e5
      have lw:=vl.length
      have el:ss.length=ws.length:=by lia
      refine⟨D,ts,Bz ss ws,rfl,Ah.of d2,by rw[DA el];lia,fun j k v e=>?_,by rw[DA el];lia,fun p5 K_=>?_⟩
      ·obtain⟨x,h1,h2,h3⟩:=JT e
       obtain⟨t,ht⟩:∃t,ts[j]?=some t:=⟨_,ACd (by have:=(ACe h1).1;lia)⟩
       obtain⟨g2,g3⟩:=tt j t v ht h2
       refine⟨t,ht,?_⟩
       rw[g2,h3,List.getD_eq_getElem?_getD,h1]
       rfl
      rw[ES el ud]
      have s4:=AG.new (o:=.dK (Bz ss ws)) K_
      have f5:upd g p5 (.dK (Bz ss ws)) p5=some (.dK (Bz ss ws)):=AE
      have b13:=bb.trans J
      have b23:Bt (some l) X g:=(Bt.of XZ).trans J
      have d43:=b23.keep D4 _ (fun z=>by rw[<-ACf z,O]at iA;cases iA) d4
      have mq:Aa (nw H g) ws B:=vl.up (BQ (fun b h=>iD.Cq b (XZ.free h)) fun b e _ h=>h)
      have mr:Aa (nw H g) M eJ:=iB.up (BQ (fun b h=>L.Cq b h) fun b e h1 h2=>b23.keep b e (fun z=>by rw[<-ACf z,O]at h1;cases h1) h2)
      have cy:H p5=none:=L.Cq p5 (b13.Cq p5 K_)
      generalize upd g p5 (.dK (Bz ss ws))=H4 at s4 f5⊢
      have b14:Bt (some l) H1 H4:=b13.trans (.of s4)
      have La:=s4 _ _ e2
      refine⟨_,rfl,D4,_,rfl,.inl (Ah.of (s4 _ _ d43)),_,rfl,U,_,3,_,rfl,rfl,aV b14,Av (j:=3) rfl,.inr ⟨m,rfl,_,_,rfl,rfl,.inl ⟨by lia,by lia⟩,?_⟩⟩
      obtain⟨N,hN,hN3⟩:∃N:Nat,((M.length:Nat):Int)*(if m=true then 1 else 0)=(N:Int)/\N<=M.length:=by
       cases m with
       |true=>exact⟨M.length,by simp,Nat.le_refl _⟩
       |false=>exact⟨0,by simp,Nat.zero_le _⟩
      rw[hN]
      refine⟨N,rfl,by lia,by lia,DN (lo:=0) (n:=N) (fun i σ Hi=>∃(P_:List Str) (Xb:List V) (QK:List Pt) (o6 o7:Option V),σ=[some (.ref U),some (.ref l),some (.ref nm),some (.int c),some (.ref D4),some (.ref p5),o6,o7]/\(∀b,b≠p5->Hi b=H4 b)/\Hi p5=some (.dK (Bz P_ Xb))/\P_.length=Xb.length/\P_.Nodup/\Aa (nw H g) Xb QK/\
        (∀k∈P_,CL k=true)/\Pt.CU QK/\(∀u∈QK,u.deep<=Ak.AW xs+2/\u.wide<=61)/\Pt.AI QK<=10*Ak.AI xs+4*i/\P_.length<=ks.length+i)
       ⟨ss,ws,B,none,none,rfl,fun b _=>rfl,f5,el,ud,mq,fun k hk=>o3 k (pm.mem_iff.mp hk),e4,fun u hu=>⟨Nat.le_trans (Pt.Ao hu) e6,Nat.le_trans (Pt.CC hu) e7⟩,by lia,by lia⟩ ?_ ?_⟩
      ·rintro i σ Hi hi ⟨P_,Xb,QK,o6,o7,rfl,Nk,jr,l2,js,Yz,jt,cz,iJ,mS,ln2⟩
       have ne5:∀{b:Addr} {o:HO},H1 b=some o->b≠p5:=fun h z=>by rw[z,b13.Cq p5 K_]at h;cases h
       have yh:Hi nm=some (.lst (ys.map V.str)):=by
        rw[Nk nm (ne5 Py.at_)]
        exact(Py.but b14 nl).at_
       have ht4:=aV b14
       have gu:Bj K Hi U [.str "table",.ref a,.ref lz,.bl m]:=Xo.imp (fun r=>r.up fun o e=>by
        have hb:U≠l:=fun z=>by unfold Du at e;rw[if_pos z]at e;cases e
        rw[EA hb]at e
        rw[Nk U (ne5 e)]
        exact b14.keep _ _ (fun z=>hb (ACf z).symm) e) id
       have yi:Rd Hi a (.dK kvs):=by
        rcases eM with h|⟨o,h⟩
        ·exact .inl (by rw[Nk a (ne5 h)];exact b14.keep a _ (fun z=>al (ACf z).symm) h)
        ·exact .inr ⟨o,by rw[Nk a (ne5 h)];exact b14.keep a _ (fun z=>al (ACf z).symm) h⟩
       have yj:Rd Hi lz (.lst iE):=by
        rcases jq with h|⟨o,h⟩
        ·exact .inl (by rw[Nk lz (ne5 h)];exact b14.keep lz _ (fun z=>zl (ACf z).symm) h)
        ·exact .inr ⟨o,by rw[Nk lz (ne5 h)];exact b14.keep lz _ (fun z=>zl (ACf z).symm) h⟩
       have yk:D4≠p5:=fun z=>by rw[z,K_]at d43;cases d43
       have ym:Hi D4=some (.lst M):=by rw[Nk D4 yk];exact s4 _ _ d43
       refine⟨_,rfl,_,rfl,c,6,rfl,by decide,fun r6 _ _=>⟨_,rfl,_,_,rfl,rfl,_,_,rfl,rfl,(by show(0:Int)<_;decide),?_⟩⟩
       have m4:=DX (r6+(0+(i:Int))) (n:=4) (by decide)
       obtain⟨jj,Ul⟩:∃j:Nat,(r6+(0+(i:Int))) % 4=(j:Int):=⟨((r6+(0+(i:Int))) % 4).toNat,by lia⟩
       obtain⟨y,hy⟩:∃y,ys[jj]?=some y:=⟨_,ACd (by rw[hn.len];lia)⟩
       refine⟨nm,_,_,_,rfl,rfl,Ah.of yh,by rw[Ul];exact Av (by rw[List.getElem?_map,hy];rfl),?_⟩
       dsimp only[Dm]
       have keep:∃(Xc:List Str) (c_:List V) (ZS:List Pt) (o6 o7:Option V),[some (V.ref U),some (V.ref l),some (V.ref nm),some (V.int c),some (V.ref D4),some (V.ref p5),some (V.int (0+(i:Int))),some (V.str y)]=[some (.ref U),some (.ref l),some (.ref nm),some (.int c),some (.ref D4),some (.ref p5),o6,o7]/\(∀b,b≠p5->Hi b=H4 b)/\Hi p5=some (.dK (Bz Xc c_))/\Xc.length=c_.length/\Xc.Nodup/\Aa (nw H g) c_ ZS/\
        (∀k∈Xc,CL k=true)/\Pt.CU ZS/\(∀u∈ZS,u.deep<=Ak.AW xs+2/\u.wide<=61)/\Pt.AI ZS<=10*Ak.AI xs+4*(i+1)/\Xc.length<=ks.length+(i+1):=⟨P_,Xb,QK,_,_,rfl,Nk,jr,l2,js,Yz,jt,cz,iJ,by lia,by lia⟩
       refine⟨_,rfl,_,rfl,U,_,1,_,rfl,rfl,gu,Eb,a,_,rfl,.inl ⟨kvs,Sum.inr y,yi,rfl,rfl⟩,_,rfl,?_⟩
       refine By (fun _=>?_) (fun _=>As keep)
       refine⟨_,rfl,_,rfl,U,_,2,_,rfl,rfl,gu,at2,lz,_,rfl,.inl (.inl yj),rfl,?_,_,rfl,?_⟩
       ·rw[cx,List.all_map]
        exact List.all_eq_true.mpr fun _ _=>rfl
       refine By (fun _=>?_) (fun _=>keep)
       obtain⟨v,hv⟩:∃v,M[i]?=some v:=⟨_,ACd (by lia)⟩
       obtain⟨t,ht,vt⟩:=mr.get hv
       have ue:=iC t (ACg ht)
       have e0:(0:Int)+(i:Int)=(i:Int):=by lia
       obtain⟨yn,yo,eP,g1,g2,g3,g4,g5,g6,g7,g8,_⟩:=SW (y:=y) vt l2 js Yz
       refine⟨_,rfl,_,rfl,D4,_,_,_,rfl,rfl,Ah.of ym,by rw[e0];exact Av hv,_,rfl,_,rfl,p5,_,rfl,.inl ⟨_,Sum.inr y,jr,rfl,BN (by rw[DA l2];lia),rfl⟩,yn,yo,eP,_,_,rfl,fun b hb=>by rw[AJ hb];exact Nk b hb,by rw[AE,g1],g2,g3,g4,fun k hk=>?_,Pt.Dt fun u hu=>?_,fun u hu=>?_,by lia,by lia⟩
       ·rcases g5 k hk with h|rfl
        ·exact jt k h
        ·exact hn.nb _ (ACg hy)
       ·rcases g6 u hu with h|rfl
        ·exact Pt.Ap cz u h
        ·exact ue.1
       ·rcases g6 u hu with h|rfl
        ·exact iJ u h
        ·have:=Pt.Ce _ ue.1
         exact⟨by lia,by lia⟩
      ·rintro σ Hi ⟨P_,Xb,QK,o6,o7,rfl,Nk,jr,l2,js,Yz,jt,cz,iJ,mS,ln2⟩
       have yq:l≠p5:=fun z=>by rw[<-z,e2]at K_;cases K_
       have gr:=Yz.length
       have yr:=EV fun u hu=>(iJ u hu).1
       have wd3:=ET fun u hu=>(iJ u hu).2
       refine⟨_,rfl,q _ (.BM P_ QK) I _ ⟨fun b e n h=>?_,fun b h=>?_⟩ (by rw[Nk l yq];exact La) (by lia) (.BM (.inl (by rw[Al cy];exact jr)) (Be l2) ?_) ?_ ?_ ?_ ?_⟩
       ·rw[Nk b (fun z=>by rw[z,cy]at h;cases h)]
        exact(L.trans b14).keep b e n h
       ·by_cases hb:b=p5
        ·rw[hb];exact cy
        ·rw[Nk b hb]at h
         exact(L.trans b14).Cq b h
       ·rw[CY l2]
        exact Yz.up (BQ (fun b h=>h) fun b e h1 h2=>by
         have hb:b≠p5:=fun z=>by rw[z,K_]at h2;cases h2
         rw[Nk b hb]
         exact s4 _ _ h2)
       ·simp only[Pt.doc]
        exact⟨by lia,js,jt,by lia,cz⟩
       ·simp only[Pt.size,Ak.size];lia
       ·simp only[Pt.deep,Ak.deep];lia
       ·simp only[Pt.wide];lia
theorem Sv {f:Addr} {e:FuncData} (F:Dp K "_law_fit" "_law_fit" RZ f e) (T:Txt mg) (b:Binds K e ["_law_asks_here","_law_cells","_law_names_here"] []) (m:mg "_law_fit"=some (.ref f)) (c:Df P w K mg base "_law_mix" ["_law_cell_here","_law_k"] 1 Dr) (d:Df P w K mg base "_law_doc" ["_law_cell_here","_law_k","_law_names_here"] 2 FZ) (a:Df P w K mg base "_law_copy" ["_law_thing"] 6 (Cc 6)):∀n:Nat,BX P w K mg base DH n f e ["_law_asks_here","_law_cells","_law_names_here"] (Ov n)
 |0=>Ic (fun vs H Q E h=>by obtain⟨_,_,_,_,_,_,_,_,_,g,_⟩:=h;omega)
 |n+1=>cu F T c d a (Df.mk' F b m (Sv F T b m c d a n))
end
end Cg
namespace Cg
open PySem L2
section
variable{P:Program} {w:World} {K:ACh} [BA K] {mg:Str->Option Value} {base:Heap}
theorem Xd:Ax ["_law_doc_here","_law_cell_here","_law_deep","_law_names_here","_law_inner","_law_way","_law_bent_here","_law_step"] ["_law_doc_here","_law_cell_here","_law_deep","_law_names_here"] (AL Ks):=⟨rfl,rfl,rfl,by decide+kernel,rfl,by decide+kernel,by decide+kernel⟩
theorem ZT {n:Nat} {f:Addr} {fd:FuncData} (F:Dp K "_law_bent" "_law_bent" Ks f fd) (T:Txt mg) (Kz:Df P w K mg base "_law_mix" ["_law_cell_here","_law_k"] 1 Dr) (XX:Df P w K mg base "_law_doc" ["_law_cell_here","_law_k","_law_names_here"] 2 FZ) (Xe:Df P w K mg base "_law_bent" ["_law_doc_here","_law_cell_here","_law_deep","_law_names_here"] n (KL n)):BX P w K mg base DH (n+1) f fd ["_law_doc_here","_law_cell_here","_law_deep","_law_names_here"] (KL (n+1)):=by
 obtain⟨Ub,Uc,LW,LX,LY,LZ⟩:=Kz.ex
 obtain⟨fDoc,hR,Pp,Pq,Pr,Pu⟩:=XX.ex
 obtain⟨iK,iL,Sw,Sx,Sy,Sz⟩:=Xe.ex
 refine F.ok Xd (fun L H Q E h=>?_) (fun LF A outer s H L Q E hr h=>?_)
 ·obtain⟨G,v,t,c,d,nm,ys,B,rfl,I,hv,M,zt,dp,h12,h5,hn,hB,mu,wt,q⟩:=h
  rfl
 ·obtain⟨G,v,t,c,d,nm,ys,B,rfl,I,hv,M,zt,dp,h12,h5,hn,hB,mu,wt,q⟩:=h
  have nd:=Xd.nd
  have D:=Bw hr
  have Iu:Aj 1 _:=hr.mono (by first|decide|omega)
  have Ir:Aj 2 _:=hr.mono (by first|decide|omega)
  have Nh:Aj n _:=hr.mono (by first|decide|omega)
  refine⟨_,(AF (AX (i:=4) nd rfl (Or.inl rfl) (A' AB))
   (AF (Af (A_ (AM CB rfl T.isinstance AZ (AA (pv 0) (AA (BE (v:=.ty "list") rfl T.list Bv rfl) AB)))) (AH (AX (i:=4) nd rfl (Or.inl rfl) (BB (GS rfl) rfl T.list Bv (AA (OY rfl T.range (AA (AM Ae rfl T.len PySem.boot_len (AA (pv 0) AB)) AB)) AB)))) AO)
   (AF (Af (A_ (AM CB rfl T.isinstance AZ (AA (pv 0) (AA (BE (v:=.ty "dict") rfl T.dict CM rfl) AB)))) (AH (AX (i:=4) nd rfl (Or.inl rfl) (AM (Cn rfl) rfl T.sorted Co (AA (pv 0) AB)))) AO)
   (AF (AX (i:=5) nd rfl (Or.inl rfl) (AK LZ Iu rfl LY LW LX .nil AV (AA (pv 1) (AA (pv 2) AB))))
   (AF (Af (PW.pt (ED (AQ (VY (Aj.DT hr)) (pv 4) (A' AB) (AU _)) (ED (AQ Ld (pv 2) AD (AU _)) (Ed (AQ Bk (AN Aq (pv 5) AD) AD (AU _)))))) (AF (Af (PW.pt (CD (A_ (AM CB rfl T.isinstance AZ (AA (pv 0) (AA (BE (v:=.ty "list") rfl T.list Bv rfl) AB)))) (CF (AQ IZ (AN Aq (AN Bc (pv 5) AD) AD) AD (AU _))))) (AH (AR (AS (r:=CJ K) Aw (A' (AA (AN Yh (pv 0) (A' (AA (AK Pu Ir rfl Pr Pp Pq .nil AV (AA (pv 1) (AA AD (AA (pv 3) AB)))) AB))) (AA (DU (r:=X_ K) Mj (pv 0) Fm (Dn (Rk Mb AD))) AB))) (AN Aq (AN Bc (pv 5) AD) AD) (fun _ _=>rfl)))) AO)
   (AF (Af (PW.pt (CD (A_ (AM CB rfl T.isinstance AZ (AA (pv 0) (AA (BE (v:=.ty "dict") rfl T.dict CM rfl) AB)))) (CF (AQ IZ (AN Aq (AN Bc (pv 5) AD) AD) AD (AU _))))) (AF (AX (i:=6) nd rfl (Or.inl rfl) (BB DZ rfl T.dict CM (AA (pv 0) AB)))
   (AF (Fp D (pv 6) (AS (r:=CJ K) Aw (pv 3) (AN Aq (AN Bc (pv 5) AD) AD) (fun _ _=>rfl)) (AK Pu Ir rfl Pr Pp Pq .nil AV (AA (pv 1) (AA AD (AA (pv 3) AB)))) rfl)
   (AF (Af (PW.pt (CD (AQ Bk (AN Aq (AN Bc (pv 5) AD) AD) AD (AU _)) (CF (AQ (FP (Aj.DT hr)) (pv 4) (A' AB) (AU _))))) (AH (Ci (DY (Gj PySem.F.plainAttrs_list PySem.F.slot_list_pop PySem.F.type_list_pop Gk (pv 6) (AA (AS (r:=CJ K) Aw (pv 4) (AN Aq (AN Bc (pv 5) AD) (AM Ae rfl T.len PySem.boot_len (AA (pv 4) AB))) (fun _ _=>rfl)) AB)) (Gp (pv 6) (AS (r:=CJ K) Aw (pv 4) (AN Aq (AN Bc (pv 5) AD) (AM Ae rfl T.len PySem.boot_len (AA (pv 4) AB))) (fun _ _=>rfl)) ⟨rfl,rfl,rfl,rfl⟩)))) AO)
   (AH (AR (pv 6)))))) AO)
   (AH (AR (AK Pu Ir rfl Pr Pp Pq .nil AV (AA (pv 1) (AA AD (AA (pv 3) AB)))))))) AO)
   (AF (AX (i:=6) nd rfl (Or.inl rfl) (DY (BB Ck rfl T.list Bv (AA (pv 0) AB)) (BB (KO rfl) rfl T.list Bv (AA (pv 0) AB))))
   (AF (Af (A_ (AM CB rfl T.isinstance AZ (AA (pv 0) (AA (BE (v:=.ty "dict") rfl T.dict CM rfl) AB)))) (AH (AX (i:=6) nd rfl (Or.inl rfl) (BB DZ rfl T.dict CM (AA (pv 0) AB)))) AO)
   (AF (AX (i:=7) nd rfl (Or.inl rfl) (AS (r:=CJ K) Aw (pv 4) (AN Aq (AN Bc (pv 5) AD) (AM Ae rfl T.len PySem.boot_len (AA (pv 4) AB))) (fun _ _=>rfl)))
   (AF (Qr (QQ (AK Sz Nh rfl Sy Sw Sx .nil AV (AA (DY (AS (r:=CJ K) Aw (pv 0) (pv 7) (fun _ _=>rfl)) (CQ D (pv 0) (pv 7) (fun _ _=>rfl))) (AA (pv 1) (AA (AN Bp (pv 2) AD) (AA (pv 3) AB))))) (QP (pv 6) (pv 7) set_list)) (Fp D (pv 6) (pv 7) (AK Sz Nh rfl Sy Sw Sx .nil AV (AA (DY (AS (r:=CJ K) Aw (pv 0) (pv 7) (fun _ _=>rfl)) (CQ D (pv 0) (pv 7) (fun _ _=>rfl))) (AA (pv 1) (AA (AN Bp (pv 2) AD) (AA (pv 3) AB))))) rfl))
   (AH (AR (pv 6)))))))))))),?_⟩
  have mw:=hv.up I
  have dq:∀{H5:Hp},AG H H5->∀v t' H6,AG H5 H6->Small H5 H6 v t'->Q v H6:=fun{H5} s5 v t' H6 S U=>q v t' H6 (s5.trans S) (U.val.up (SY I (fun b h=>s5.free h) fun b o _ h=>h)) U.doc (by have:=U.size;have:=Pt.size_pos t;lia) (by have:=U.deep;have:=Pt.De t;lia) (by have:=Pt.Ce t' U.doc;have:=U.size;lia)
  refine⟨Nat.zero_le _,fun p0 Xn=>?_⟩
  have s0:=AG.new (o:=.lst []) Xn
  have f0:upd H p0 (.lst []) p0=some (.lst []):=AE
  generalize upd H p0 (.lst [])=H0 at s0 f0⊢
  dsimp only[Dm]
  refine FU (t:=Gg _ _ _) (fun σ' H1=>∃(pi:Addr) (l:List V),σ'=[some v,some (.int c),some (.int (d:Int)),some (.ref nm),some (.ref pi),none,none,none]/\AG H H1/\H1 pi=some (.lst l)/\((∀ks xs,t≠.BM ks xs)->SQ t l)) (fun σ' H1 ⟨mx,l0,es,s1,f1,ju⟩=>?_) (fun X=>?_)
  rotate_left
  ·refine⟨_,rfl,_,"list",t.Uk,rfl,rfl,((mw.up s0).lW M),_,rfl,?_⟩
   cases hv with
   |int i=>exact As (X _ _ ⟨p0,[],rfl,s0,f0,fun _=>rfl⟩)
   |str i=>exact As (X _ _ ⟨p0,[],rfl,s0,f0,fun _=>rfl⟩)
   |bl b=>simp[Pt.doc]at M
   |tup _ _=>simp[Pt.doc]at M
   |BM _ _ _=>exact As (X _ _ ⟨p0,[],rfl,s0,f0,fun z=>absurd rfl (z _ _)⟩)
   |@lst a L m ha ra=>
    have lv:=ra.length
    have lt:=Pt.Cm m
    simp only[Pt.size]at zt
    refine Bq ⟨_,rfl,a,_,rfl,.inl (.inl ((ha.up (I _)).up (s0 _))),_,rfl,fun r hr=>⟨r,L.length,rfl,AE,by lia,fun pl cK=>?_⟩⟩
    have sr:=(s0.trans (AG.new (o:=.Ze 0 (L.length:Int)) hr)).trans (AG.new (o:=.lst ((List.range L.length).map fun(i:Nat)=>V.int (i:Int))) cK)
    exact X _ _ ⟨pl,_,rfl,sr,AE,fun _=>by rw[lv];exact rfl⟩
  subst es
  refine FU (t:=Gg _ _ _) (fun σ' H1=>∃(pi:Addr) (l:List V),σ'=[some v,some (.int c),some (.int (d:Int)),some (.ref nm),some (.ref pi),none,none,none]/\AG H H1/\H1 pi=some (.lst l)/\SQ t l) (fun σ' H1 ⟨pi,l,es,s1,f1,st⟩=>?_) (fun X=>?_)
  rotate_left
  ·refine⟨_,rfl,_,"dict",t.Uk,rfl,rfl,((mw.up s1).lW M),_,rfl,?_⟩
   cases hv with
   |int i=>exact As (X _ _ ⟨mx,l0,rfl,s1,f1,ju fun _ _ z=>nomatch z⟩)
   |str i=>exact As (X _ _ ⟨mx,l0,rfl,s1,f1,ju fun _ _ z=>nomatch z⟩)
   |bl b=>simp[Pt.doc]at M
   |tup _ _=>simp[Pt.doc]at M
   |lst _ _=>exact As (X _ _ ⟨mx,l0,rfl,s1,f1,ju fun _ _ z=>nomatch z⟩)
   |@BM a kvs ks m ha N ra=>
    have kl:kvs.length=ks.length:=by have:=congrArg List.length N;simpa using this
    simp only[Pt.doc]at M
    refine Bq ⟨_,rfl,a,kvs,ks,rfl,(ha.up (I _)).up (s1 _),N,by lia,fun ps ss H2 ZR s2 Xp pm so=>?_⟩
    exact X _ _ ⟨ps,_,rfl,s1.trans s2,Xp,⟨ss,rfl,pm,so⟩⟩
  subst es
  clear f0 s0 ju
  refine⟨_,rfl,_,rfl,c,d,rfl,by lia,fun wy _ _=>?_⟩
  dsimp only[Dm]
  have Py:=hn.up s1
  refine Qq (t:=Gg _ _ _) (fun H5=>AG H1 H5/\l≠[]/\d<=4) (fun H5 ⟨s5,iM,d4⟩=>?_) (fun Xf=>?_)
  rotate_left
  ·refine Yi (fun H5=>AG H1 H5) (fun H5 s5=>?_) (fun dA=>?_)
   rotate_left
   ·refine⟨_,rfl,Nat.zero_le _,fun pe MS=>⟨pi,pe,_,rfl,rfl,Ah.of ((AG.new MS) _ _ f1),Ah.of AE,_,rfl,?_⟩⟩
    have se:=AG.new (o:=.lst []) MS
    refine By (fun _=>Bq (dA _ se)) (fun h1=>?_)
    have iM:l≠[]:=fun z=>by rw[z]at h1;cases h1
    refine⟨_,rfl,_,_,rfl,rfl,_,rfl,By (fun _=>Bq (dA _ se)) (fun h2=>?_)⟩
    have h2:=of_decide_eq_false h2
    exact⟨_,rfl,_,_,rfl,rfl,(by show(0:Int)<_;decide),rfl,_,rfl,By (fun _=>dA _ se) (fun _=>Xf _ ⟨se,iM,by lia⟩)⟩
   ·have g:=s1.trans s5
    have O:=Py.up s5
    refine⟨_,rfl,_,"list",t.Uk,rfl,rfl,((mw.up g).lW M),_,rfl,?_⟩
    cases hv with
    |int i=>exact As (As ⟨_,rfl,_,"dict","int",rfl,rfl,.int i,_,rfl,As (As ⟨_,rfl,_,rfl,c,6,nm,ys,rfl,by decide,O,dq g⟩)⟩)
    |str i=>exact As (As ⟨_,rfl,_,"dict","str",rfl,rfl,.str i,_,rfl,As (As ⟨_,rfl,_,rfl,c,6,nm,ys,rfl,by decide,O,dq g⟩)⟩)
    |bl b=>simp[Pt.doc]at M
    |tup _ _=>simp[Pt.doc]at M
    |@lst a L m ha ra=>
     have Xg:=(ha.up (I _)).up (g _)
     have lv:=ra.length
     have lt:=Pt.Cm m
     simp only[Pt.size]at zt q
     simp only[Pt.doc]at M
     simp only[Pt.deep]at q
     simp only[Pt.wide]at wt
     refine Bq ⟨_,rfl,_,_,rfl,rfl,⟨by decide,by decide⟩,_,_,rfl,rfl,(by show(0:Int)<_;decide),_,_,rfl,rfl,_,rfl,By (fun h2=>?_) (fun _=>?_)⟩
     ·have h2:=of_decide_eq_true h2
      have m3:=DX (wy/3) (n:=3) (by decide)
      refine⟨_,rfl,_,rfl,_,rfl,c,6,nm,ys,rfl,by decide,O,fun v1 t1 H6 S U=>⟨Bs,fun p1 cn=>?_⟩⟩
      have uf:upd H6 p1 (.lst [v1]) p1=some (.lst [v1]):=AE
      have s7:=AG.new (o:=.lst [v1]) cn
      generalize upd H6 p1 (.lst [v1])=H7 at uf s7⊢
      have s17:=(g.trans S).trans s7
      refine⟨a,p1,_,_,rfl,rfl,(ha.up (I _)).up (s17 _),.inl uf,Ad (by simp only[List.length_cons,List.length_nil];lia),fun p2 JI=>?_⟩
      have ug:upd H7 p2 (.lst (L++[v1])) p2=some (.lst (L++[v1])):=AE
      have s8:=AG.new (o:=.lst (L++[v1])) JI
      generalize upd H7 p2 (.lst (L++[v1]))=Y at ug s8⊢
      have s18:=s17.trans s8
      refine⟨_,rfl,_,rfl,_,rfl,a,_,rfl,.inl ((ha.up (I _)).up (s18 _)),fun p3 ZJ=>?_⟩
      obtain⟨kc,yt⟩:=UG L
      rw[yt]
      have uh:upd Y p3 (.lst (L.take kc)) p3=some (.lst (L.take kc)):=AE
      have s9:=AG.new (o:=.lst (L.take kc)) ZJ
      generalize upd Y p3 (.lst (L.take kc))=H9 at uh s9⊢
      refine⟨Az,fun p4 eF=>?_⟩
      have ui:upd H9 p4 (.lst [.ref p2,.ref p3]) p4=some (.lst [.ref p2,.ref p3]):=AE
      have sA:=AG.new (o:=.lst [.ref p2,.ref p3]) eF
      generalize upd H9 p4 (.lst [.ref p2,.ref p3])=HA at ui sA⊢
      obtain⟨v2,gN,iN⟩:=FQ (xs:=[V.ref p2,V.ref p3]) (i:=wy/3 % 3) m3.1 (by simp only[List.length_cons,List.length_nil];lia)
      refine⟨_,rfl,_,_,rfl,rfl,⟨by decide,by decide⟩,_,_,rfl,rfl,(by show(0:Int)<_;decide),p4,_,_,_,rfl,rfl,Ah.of ui,gN,?_⟩
      have uj:=(s18.trans s9).trans sA
      have my:Val (ov G H HA) v1 t1:=U.val.up (SY I (fun b h=>g.free h) fun b o _ h=>((s7.trans s8).trans s9).trans sA b o h)
      have jv:Aa (ov G H HA) L m:=ra.up NB
      simp only[List.mem_cons,List.not_mem_nil,or_false]at iN
      rcases iN with rfl|rfl
      ·refine q _ (.lst (m++[t1])) HA uj (.lst (.inl (by rw[IP I (s17.free JI)];exact(s9.trans sA) _ _ ug)) (jv.snoc my)) (Pt.Dv M ⟨U.doc,trivial⟩) ?_ ?_ ?_
       ·have:=U.size
        simp only[Pt.size];rw[Pt.Ai];simp only[Pt.AI];lia
       ·have:=U.deep
        simp only[Pt.deep];rw[Pt.Bi];simp only[Pt.AW];lia
       ·have:=Pt.Ce t1 U.doc
        have:=U.size
        simp only[Pt.wide];rw[Pt.DM];simp only[Pt.CH];lia
      ·refine q _ (.lst (m.take kc)) HA uj (.lst (.inl (by rw[IP I (s18.free ZJ)];exact sA _ _ uh)) (jv.aE kc)) (Pt.Dt fun x hx=>Pt.Ap M x (List.mem_of_mem_take hx)) ?_ ?_ ?_
       ·have:=KQ m kc
        simp only[Pt.size];lia
       ·have:=EV (us:=m.take kc) (n:=Pt.AW m) fun u D=>Pt.Ao (List.mem_of_mem_take D)
        simp only[Pt.deep];lia
       ·have:=ET (us:=m.take kc) (n:=Pt.CH m) fun u D=>Pt.CC (List.mem_of_mem_take D)
        simp only[Pt.wide];lia
     ·exact⟨_,rfl,_,"dict","list",rfl,rfl,.lst Xg,_,rfl,As (As ⟨_,rfl,_,rfl,c,6,nm,ys,rfl,by decide,O,dq g⟩)⟩
    |@BM a kvs ks m ha N ra=>
     have Xg:=(ha.up (I _)).up (g _)
     refine As (As ⟨_,rfl,_,"dict","dict",rfl,rfl,.dK Xg,_,rfl,Bq ⟨_,rfl,_,_,rfl,rfl,⟨by decide,by decide⟩,_,_,rfl,rfl,(by show(0:Int)<_;decide),_,_,rfl,rfl,_,rfl,By (fun h2=>?_) (fun _=>⟨_,rfl,_,rfl,c,6,nm,ys,rfl,by decide,O,dq g⟩)⟩⟩)
     have kl:kvs.length=ks.length:=by have:=congrArg List.length N;simpa using this
     have ek:=RA N
     obtain⟨ws,aR⟩:∃ws,ws=kvs.map (·.2):=⟨_,rfl⟩
     rw[<-aR]at ra ek
     have lw:=ra.length
     simp only[Pt.size]at zt q
     simp only[Pt.doc]at M
     simp only[Pt.deep]at q
     obtain⟨iO,iP,m_,uk,jx⟩:=M
     have el:ks.length=ws.length:=by lia
     refine⟨_,rfl,a,kvs,rfl,Xg,fun p Z=>?_⟩
     have f6:upd H5 p (.dK kvs) p=some (.dK kvs):=AE
     have S:=AG.new (o:=.dK kvs) Z
     generalize upd H5 p (.dK kvs)=H6 at f6 S⊢
     have n6:=g.free Z
     refine⟨_,rfl,_,rfl,c,6,nm,ys,rfl,by decide,O.up S,fun v1 t1 H7 s7 U=>?_⟩
     have m4:=DX (wy/9) (n:=4) (by decide)
     obtain⟨jj,Ul⟩:∃j:Nat,wy/9 % 4=(j:Int):=⟨(wy/9 % 4).toNat,by lia⟩
     obtain⟨y,hy⟩:∃y,ys[jj]?=some y:=⟨_,ACd (by rw[hn.len];lia)⟩
     refine⟨_,rfl,_,rfl,_,rfl,_,_,rfl,rfl,⟨by decide,by decide⟩,_,_,rfl,rfl,(by show(0:Int)<_;decide),nm,_,_,_,rfl,rfl,Ah.of ((O.up S).up s7).at_,by rw[Ul];exact Av (by rw[List.getElem?_map,hy];rfl),p,_,rfl,.inl ⟨kvs,Sum.inr y,s7 _ _ f6,rfl,BN (by lia),rfl⟩,?_⟩
     have s17:=(g.trans S).trans s7
     simp only[Pt.wide]at wt
     have J:=g.trans S
     have yu:AG G H6:=I.trans J
     have jv:Aa (ov G H6 H7) ws m:=ra.up NB
     have yw:Val (ov G H6 H7) v1 t1:=U.val.up (SY yu (fun b h=>h) fun b o _ h=>h)
     have w1:=Pt.Ce t1 U.doc
     have z1:=U.size
     have x1:=U.deep
     rw[ek]
     obtain⟨C,R,eP,g1,g2,g3,g4,g5,g6,g7,g8,g9⟩:=SW (y:=y) yw el iP jv
     rw[g1]
     have yx:∀k∈C,CL k=true:=fun k hk=>by
      rcases g5 k hk with h|rfl
      ·exact m_ k h
      ·exact hn.nb _ (ACg hy)
     have dB:∀u∈eP,u.doc/\u.deep<=Pt.AW m+2/\u.wide<=B:=fun u D=>by
      rcases g6 u D with h|rfl
      ·exact⟨Pt.Ap jx u h,by have:=Pt.Ao h;lia,by have:=Pt.CC h;lia⟩
      ·exact⟨U.doc,by lia,by lia⟩
     have fin:∀(P_:List Str) (Xb:List V) (QK:List Pt) (Y:Hp),AG H Y->(∀b o,b≠p->H7 b=some o->Y b=some o)->Y p=some (.dK (Bz P_ Xb))->P_.length=Xb.length->P_.Nodup->Aa (ov G H6 H7) Xb QK->(∀k∈P_,k∈C)->(∀u∈QK,u∈eP)->Pt.AI QK<=Pt.AI eP->P_.length<=C.length->Q (.ref p) Y:=fun P_ Xb QK Y s8 k8 f8 e1 e2 e3 e4 e5 e6 e7=>by
      have lu:=e3.length
      have dd:=EV (us:=QK) (n:=Pt.AW m+2) fun u D=>(dB u (e5 u D)).2.1
      have dw:=ET (us:=QK) (n:=B) fun u D=>(dB u (e5 u D)).2.2
      refine q _ (.BM P_ QK) Y s8 (.BM (.inl (by rw[IP I n6];exact f8)) (Be e1) (by rw[CY e1];exact e3.up (WR I (fun b h=>J.free h) fun b o h1 h2=>k8 b o (fun z=>by rw[z,f6]at h1;cases h1) h2))) ?_ ?_ ?_ ?_
      ·simp only[Pt.doc]
       exact⟨by lia,e2,fun k hk=>yx k (e4 k hk),by lia,Pt.Dt fun u D=>(dB u (e5 u D)).1⟩
      ·simp only[Pt.size];lia
      ·simp only[Pt.deep];lia
      ·simp only[Pt.wide];lia
     have s08:AG H (upd H7 p (.dK (Bz C R))):=s17.put n6
     have k08:∀b o,b≠p->H7 b=some o->upd H7 p (.dK (Bz C R)) b=some o:=fun b o hb h=>by rw[AJ hb];exact h
     have f8:upd H7 p (.dK (Bz C R)) p=some (.dK (Bz C R)):=AE
     have yy:pi≠p:=fun z=>by have:=s5 _ _ f1;rw[z,Z]at this;cases this
     have nA:upd H7 p (.dK (Bz C R)) pi=some (.lst l):=by rw[AJ yy];exact s7 _ _ (S _ _ (s5 _ _ f1))
     generalize upd H7 p (.dK (Bz C R))=Y at s08 k08 f8 nA⊢
     have ret:∀H9,AG Y H9->Q (.ref p) H9:=fun H9 s9=>fin C R eP H9 (s08.trans s9) (fun b o hb h=>s9 _ _ (k08 b o hb h)) (s9 _ _ f8) g2 g3 g4 (fun k h=>h) (fun u h=>h) (Nat.le_refl _) (Nat.le_refl _)
     dsimp only
     refine⟨_,rfl,_,_,rfl,rfl,⟨by decide,by decide⟩,_,_,rfl,rfl,(by show(0:Int)<_;decide),rfl,_,rfl,By (fun _=>?_) (fun _=>As ⟨_,rfl,ret Y (AG.refl _)⟩)⟩
     refine⟨_,rfl,Nat.zero_le _,fun pe MS=>⟨pi,pe,_,rfl,rfl,Ah.of ((AG.new MS) _ _ nA),Ah.of AE,_,rfl,?_⟩⟩
     have se:=AG.new (o:=.lst []) MS
     generalize upd Y pe (.lst [])=H9 at se⊢
     obtain⟨ss,rfl,pm,so⟩:=st
     have iQ:=se _ _ nA
     refine By (fun h3=>?_) (fun _=>⟨_,rfl,ret H9 se⟩)
     have yz:ss≠[]:=fun z=>by subst z;cases h3
     have y_:0<ss.length:=List.length_pos_iff.mpr yz
     have ms:0<=wy/9 % (ss.length:Int)/\wy/9 % (ss.length:Int)<(ss.length:Int):=⟨Int.emod_nonneg _ (by lia),Int.emod_lt_of_pos _ (by lia)⟩
     obtain⟨j2,mT⟩:∃j:Nat,wy/9 % (ss.length:Int)=(j:Int):=⟨(wy/9 % (ss.length:Int)).toNat,by lia⟩
     obtain⟨y2,um⟩:∃y,ss[j2]?=some y:=⟨_,ACd (by lia)⟩
     have zA:y2∈C:=g9 y2 (pm.mem_iff.mp (ACg um))
     obtain⟨x2,zB⟩:∃x,CS (Bz C R) (Sum.inr y2:Key)=some x:=by
      have:=Ih (Be g2) y2
      rw[decide_eq_true zA]at this
      cases e:CS (Bz C R) (Sum.inr y2:Key)with
      |none=>rw[e]at this;cases this
      |some x=>exact⟨x,rfl⟩
     have f9:=se _ _ f8
     obtain⟨zC,zD,eJ,i1,i2,i3,i4,i5,i6,i7,i8⟩:=Oy (y:=y2) g2 g3 g4
     refine .inr ⟨_,rfl,p,rfl,.inl ⟨_,.inl f9⟩,_,rfl,_,rfl,_,_,rfl,rfl,⟨by decide,by decide⟩,_,rfl,pi,_,rfl,.inl (Ah.of iQ),_,_,rfl,rfl,(by show(0:Int)<_;rw[List.length_map];lia),pi,_,_,_,rfl,rfl,Ah.of iQ,by rw[List.length_map,mT];exact Av (by rw[List.getElem?_map,um];rfl),Bz C R,Sum.inr y2,x2,f9,rfl,zB,_,rfl,?_⟩
     rw[i1]
     exact fin zC zD eJ _ ((s08.trans se).put n6) (fun b o hb h=>by rw[AJ hb];exact se _ _ (k08 b o hb h)) AE i2 i3 i4 i5 i6 i7 i8
  ·have g:=s1.trans s5
   have O:=Py.up s5
   have f5:=s5 _ _ f1
   have zE:0<l.length:=List.length_pos_iff.mpr iM
   have ms:0<=wy/3 % (l.length:Int)/\wy/3 % (l.length:Int)<(l.length:Int):=⟨Int.emod_nonneg _ (by lia),Int.emod_lt_of_pos _ (by lia)⟩
   obtain⟨jj,Ul⟩:∃j:Nat,wy/3 % (l.length:Int)=(j:Int):=⟨(wy/3 % (l.length:Int)).toNat,by lia⟩
   have jl:jj<l.length:=by lia
   have ed:((d:Int)+1)=((d+1:Nat):Int):=by lia
   cases hv with
   |int i=>exact absurd (show l=[]from st) iM
   |str i=>exact absurd (show l=[]from st) iM
   |bl b=>simp[Pt.doc]at M
   |tup _ _=>simp[Pt.doc]at M
   |@lst a L m ha ra=>
    have el:l=_:=st
    have lv:=ra.length
    have lt:=Pt.Cm m
    have ll:l.length=m.length:=by rw[el];simp
    simp only[Pt.size]at zt q
    simp only[Pt.doc]at M
    simp only[Pt.deep]at dp q
    simp only[Pt.wide]at wt
    refine .inl ⟨_,rfl,a,_,rfl,.inl (.inl ((ha.up (I _)).up (g _))),fun p Z=>?_⟩
    have f6:upd H5 p (.lst L) p=some (.lst L):=AE
    have S:=AG.new (o:=.lst L) Z
    generalize upd H5 p (.lst L)=H6 at f6 S⊢
    have J:=g.trans S
    have n6:=g.free Z
    have aY:=(ha.up (I _)).up (J _)
    have f56:=S _ _ f5
    refine⟨_,rfl,_,"dict","list",rfl,rfl,.lst aY,_,rfl,As ?_⟩
    have hl:l[jj]?=some (.int (jj:Int)):=by
     rw[el,List.getElem?_map,List.getElem?_range (by lia)]
     rfl
    refine⟨_,rfl,_,rfl,_,_,rfl,rfl,⟨by decide,by decide⟩,_,rfl,pi,_,rfl,.inl (Ah.of f56),_,_,rfl,rfl,(by show(0:Int)<_;lia),pi,_,_,_,rfl,rfl,Ah.of f56,by rw[Ul];exact Av hl,?_⟩
    obtain⟨tx,Um⟩:∃t,m[jj]?=some t:=⟨_,ACd (by lia)⟩
    obtain⟨x,hx,vx⟩:=ra.get' Um
    have mt:=ACg Um
    have zx:=Pt.Bh mt
    have dx:=Pt.Ao mt
    have wx:=Pt.CC mt
    refine .inl (.inl ⟨_,rfl,_,rfl,a,_,_,x,rfl,rfl,.inl aY,Av hx,_,rfl,_,rfl,_,_,rfl,rfl,_,rfl,G,x,tx,c,d+1,nm,ys,B,by rw[ed];rfl,I.trans J,vx,Pt.Ap M _ mt,by lia,by lia,by lia,by lia,O.up S,hB,mu,by lia,fun w t' Y s8 v8 d8 z8 p8 w8=>?_⟩)
    have f8:=s8 _ _ f6
    refine⟨_,rfl,_,rfl,p,L,(jj:Int),jj,rfl,rfl,f8,by unfold QX;rw[if_pos (by lia),if_pos (by lia),Int.toNat_natCast],⟨_,rfl,?_⟩⟩
    have s08:=J.trans s8
    have nB:AG (ov G H6 Y) (ov G H (upd Y p (.lst (L.set jj w)))):=WR I (fun b h=>J.free h) fun b o h1 h2=>by rw[AJ (fun z=>by rw[z,f6]at h1;cases h1)];exact h2
    have sz:=IM (t:=t') Um
    refine q _ (.lst (m.set jj t')) _ (s08.put n6) (.lst (.inl (by rw[IP I n6,AE])) (((ra.up NB).cI v8 jj).up nB)) (Pt.Dt fun u D=>?_) ?_ ?_ ?_
    ·rcases mem_set D with h|rfl
     ·exact Pt.Ap M u h
     ·exact d8
    ·simp only[Pt.size];lia
    ·have:=EV (us:=m.set jj t') (n:=Pt.AW m+2) fun u D=>by
      rcases mem_set D with h|rfl
      ·have:=Pt.Ao h;lia
      ·lia
     simp only[Pt.deep];lia
    ·have:=ET (us:=m.set jj t') (n:=B+1) fun u D=>by
      rcases mem_set D with h|rfl
      ·have:=Pt.CC h;lia
      ·lia
     simp only[Pt.wide];lia
   |@BM a kvs ks m ha N ra=>
    obtain⟨ss,el,pm,so⟩:=st
    have kl:kvs.length=ks.length:=by have:=congrArg List.length N;simpa using this
    have ek:=RA N
    have zF:=ra
    obtain⟨ws,aR⟩:∃ws,ws=kvs.map (·.2):=⟨_,rfl⟩
    rw[<-aR]at ra ek
    have lw:=ra.length
    simp only[Pt.size]at zt q
    simp only[Pt.doc]at M
    simp only[Pt.deep]at dp q
    simp only[Pt.wide]at wt
    obtain⟨iO,iP,m_,uk,jx⟩:=M
    have uo:ks.length=ws.length:=by lia
    have Xg:=(ha.up (I _)).up (g _)
    refine .inr ⟨_,rfl,a,kvs,ks,rfl,Xg,N,fun p5 K_=>?_⟩
    have sl:=AG.new (o:=.lst (ks.map V.str)) K_
    generalize upd H5 p5 (.lst (ks.map V.str))=uq at sl⊢
    have iR:=g.trans sl
    refine⟨_,rfl,_,"dict","dict",rfl,rfl,.dK (Xg.up (sl _)),_,rfl,Bq ⟨_,rfl,a,kvs,rfl,Xg.up (sl _),fun p Z=>?_⟩⟩
    have f6:upd uq p (.dK kvs) p=some (.dK kvs):=AE
    have S:=AG.new (o:=.dK kvs) Z
    generalize upd uq p (.dK kvs)=H6 at f6 S⊢
    have J:=iR.trans S
    have n6:=iR.free Z
    have aY:=(ha.up (I _)).up (J _)
    have f56:=S _ _ (sl _ _ f5)
    obtain⟨y,hy⟩:∃y,ss[jj]?=some y:=⟨_,ACd (by rw[el,List.length_map]at jl;exact jl)⟩
    have hl:l[jj]?=some (.str y):=by rw[el,List.getElem?_map,hy];rfl
    refine⟨_,rfl,_,rfl,_,_,rfl,rfl,⟨by decide,by decide⟩,_,rfl,pi,_,rfl,.inl (Ah.of f56),_,_,rfl,rfl,(by show(0:Int)<_;lia),pi,_,_,_,rfl,rfl,Ah.of f56,by rw[Ul];exact Av hl,?_⟩
    obtain⟨kj,nC⟩:=List.mem_iff_getElem?.mp (pm.mem_iff.mp (ACg hy))
    have nD:=(ACe nC).1
    have eg:ks.getD kj ""=y:=by rw[List.getD_eq_getElem?_getD,nC];rfl
    obtain⟨x,tx,k1,Um,vx⟩:=NA N zF iP nD
    rw[eg]at k1
    have mt:=ACg Um
    have zx:=Pt.Bh mt
    have dx:=Pt.Ao mt
    have wx:=Pt.CC mt
    refine .inr (.inr ⟨_,rfl,_,rfl,a,x,rfl,.inl ⟨kvs,Sum.inr y,aY,rfl,k1.symm⟩,_,rfl,_,rfl,_,_,rfl,rfl,_,rfl,G,x,tx,c,d+1,nm,ys,B,by rw[ed];rfl,I.trans J,vx,Pt.Ap jx _ mt,by lia,by lia,by lia,by lia,(O.up sl).up S,hB,mu,by lia,fun w t' Y s8 v8 d8 z8 p8 w8=>?_⟩)
    have f8:=s8 _ _ f6
    refine⟨_,rfl,_,rfl,p,_,rfl,.inl ⟨kvs,Sum.inr y,f8,rfl,BN (by lia),rfl⟩,?_⟩
    rw[ek,cJ w uo iP nC]
    have s08:=J.trans s8
    have nB:AG (ov G H6 Y) (ov G H (upd Y p (.dK (Bz ks (ws.set kj w))))):=WR I (fun b h=>J.free h) fun b o h1 h2=>by rw[AJ (fun z=>by rw[z,f6]at h1;cases h1)];exact h2
    have sz:=IM (t:=t') Um
    have uu:ks.length=(ws.set kj w).length:=by rw[List.length_set];exact uo
    refine⟨_,rfl,q _ (.BM ks (m.set kj t')) _ (s08.put n6) (.BM (.inl (by rw[IP I n6,AE])) (Be uu) (by rw[CY uu];exact(((ra.up NB).cI v8 kj).up nB))) ?_ ?_ ?_ ?_⟩
    ·simp only[Pt.doc]
     refine⟨by rw[List.length_set];exact iO,iP,m_,uk,Pt.Dt fun u D=>?_⟩
     rcases mem_set D with h|rfl
     ·exact Pt.Ap jx u h
     ·exact d8
    ·simp only[Pt.size];lia
    ·have:=EV (us:=m.set kj t') (n:=Pt.AW m+2) fun u D=>by
      rcases mem_set D with h|rfl
      ·have:=Pt.Ao h;lia
      ·lia
     simp only[Pt.deep];lia
    ·have:=ET (us:=m.set kj t') (n:=B+1) fun u D=>by
      rcases mem_set D with h|rfl
      ·have:=Pt.CC h;lia
      ·lia
     simp only[Pt.wide];lia
theorem P' {f:Addr} {d:FuncData} (F:Dp K "_law_bent" "_law_bent" Ks f d) (T:Txt mg) (b:Binds K d ["_law_doc_here","_law_cell_here","_law_deep","_law_names_here"] []) (m:mg "_law_bent"=some (.ref f)) (a:Df P w K mg base "_law_mix" ["_law_cell_here","_law_k"] 1 Dr) (c:Df P w K mg base "_law_doc" ["_law_cell_here","_law_k","_law_names_here"] 2 FZ):∀n:Nat,BX P w K mg base DH n f d ["_law_doc_here","_law_cell_here","_law_deep","_law_names_here"] (KL n)
 |0=>Ic (fun vs H Q E h=>by obtain⟨_,_,_,_,_,_,_,_,_,_,_,_,_,_,e,g,_⟩:=h;omega)
 |n+1=>ZT F T a c (Df.mk' F b m (P' F T b m a c n))
end
end Cg
namespace Cg
open PySem L2
section
variable{P:Program} {w:World} {K:ACh} [BA K] {mg:Str->Option Value} {base:Heap}
theorem Xh:Ax ["_law_asks_here","_law_doc_here","_law_others"] ["_law_asks_here","_law_doc_here"] (AL Kt):=⟨rfl,rfl,rfl,by decide+kernel,rfl,by decide+kernel,by decide+kernel⟩
theorem ZU {n:Nat} {f:Addr} {fd:FuncData} (F:Dp K "_law_lets" "_law_lets" Kt f fd) (T:Txt mg) (Xi:Df P w K mg base "_law_lets" ["_law_asks_here","_law_doc_here"] n (GB n)):BX P w K mg base DH (n+1) f fd ["_law_asks_here","_law_doc_here"] (GB (n+1)):=by
 obtain⟨iS,iT,QA,QB,QC,QD⟩:=Xi.ex
 refine F.ok Xh (fun vs H Q E h=>?_) (fun LF A outer s H vs Q E hr h=>?_)
 ·obtain⟨v,y,a0,t,rfl,hv,hy,O,Z,za,zt,iU,eQ,q⟩:=h
  rfl
 ·obtain⟨v,y,a0,t,rfl,hv,hy,O,Z,za,zt,iU,eQ,q⟩:=h
  have nd:=Xh.nd
  have hu:=Bw hr
  have X:Aj n _:=hr.mono (by first|decide|omega)
  refine⟨_,(AF (Af (AQ Bk (AS (r:=BD K) AY (pv 0) AD (fun _ _=>rfl)) Ag (AU _)) (AH (AR Ct)) AO)
   (AF (Af (AQ Bk (AS (r:=BD K) AY (pv 0) AD (fun _ _=>rfl)) Ag (AU _)) (AH (AR (Cj (Ki (Aj.units hr):Dy _ _ RQ) (AS (r:=BD K) AY (pv 0) AD (fun _ _=>rfl)) (pv 1) (AU _)))) AO)
   (AF (Af (AQ Bk (AS (r:=BD K) AY (pv 0) AD (fun _ _=>rfl)) Ag (AU _)) (AF (Af (PW.pt (ED (DS (A_ (AM (Ba:BJ _ _ (DE K)) rfl T.isinstance AZ (AA (pv 1) (AA (BE (v:=.ty "list") rfl T.list Bv rfl) AB))))) (ED (AQ IZ (AM Ae rfl T.len PySem.boot_len (AA (pv 1) AB)) (AM Ae rfl T.len PySem.boot_len (AA (AS (r:=BD K) AY (pv 0) AD (fun _ _=>rfl)) AB)) (AU _)) (Ed (PW.pt (CD (DS (A_ (AS (r:=BD K) AY (pv 0) AD (fun _ _=>rfl)))) (CF (AQ Ld (AM Ae rfl T.len PySem.boot_len (AA (pv 1) AB)) (AM Ae rfl T.len PySem.boot_len (AA (AS (r:=BD K) AY (pv 0) AD (fun _ _=>rfl)) AB)) (AU _))))))))) (AH (AR Ct)) AO)
   (AH (AR (AM (Jn rfl) rfl T.all Vb (AA (BI (fv:=["_law_doc_here","_law_asks_here"]) (fs:=[1,0]) rfl (.of (by rfl)) (BZ rfl T.range (AA (AM Ae rfl T.len PySem.boot_len (AA (AS (r:=BD K) AY (pv 0) AD (fun _ _=>rfl)) AB)) AB)) (fun _ _ _ _=>BR) (fun C s0 H0 fp=>(AK QD X rfl QC QA QB .nil AV (AA (AS (r:=CJ K) Aw (AS (r:=BD K) AY (pv 2) AD (fun _ _=>rfl)) (pv 0) (fun _ _=>rfl)) (AA (AS (r:=CJ K) Aw (pv 1) (pv 0) (fun _ _=>rfl)) AB))))) AB))))) AO)
   (AF (Af (DS (A_ (AM (Ba:BJ _ _ (DE K)) rfl T.isinstance AZ (AA (pv 1) (AA (BE (v:=.ty "dict") rfl T.dict CM rfl) AB))))) (AH (AR Ct)) AO)
   (AF (SN (Eh (i:=2) (fv:=["_law_asks_here"]) (fs:=[0]) rfl (.of (by rfl)) nd rfl (Or.inl rfl) (JP (pv 1)) (fun C s0 H0 fp=>Fs (Jc (Fo hu (pv 0) (AS (r:=BD K) AY (pv 1) AD (fun _ _=>rfl))))) (fun C s0 H0 fp=>(pv 0))))
   (AF (Af (PW.pt (ED (AQ IZ (AN IA (AM Ls rfl T.len PySem.boot_len (AA (pv 1) AB)) (AM Ae rfl T.len PySem.boot_len (AA (pv 2) AB))) (AM Ls rfl T.len PySem.boot_len (AA (AS (r:=BD K) AY (pv 0) AD (fun _ _=>rfl)) AB)) (AU _)) (Ed (PW.pt (CD (DS (A_ (AS (r:=BD K) AY (pv 0) AD (fun _ _=>rfl)))) (CF (AQ (FP (Aj.DT hr)) (pv 2) (A' AB) (AU _)))))))) (AH (AR Ct)) AO)
   (AF (Af (AQ (FP (Aj.DT hr)) (BI (fv:=["_law_asks_here"]) (fs:=[0]) rfl (.of (by rfl)) (Br (pv 2)) (fun C s0 H0 fp=>Fs (AQ (Lk:Dy _ _ (fk K false)) (pv 0) (AS (r:=BD K) AY (pv 1) AD (fun _ _=>rfl)) rfl)) (fun C s0 H0 fp=>(pv 0))) (A' AB) (AU _)) (AH (AR Ct)) AO)
   (AH (AR (AM (Jn rfl) rfl T.all Vb (AA (SM (BI (fv:=["_law_doc_here","_law_asks_here"]) (fs:=[1,0]) rfl (.of (by rfl)) (JP (AS (r:=BD K) AY (pv 0) AD (fun _ _=>rfl))) (fun _ _ _ _=>BR) (fun C s0 H0 fp=>(AK QD X rfl QC QA QB .nil AV (AA (CQ hu (AS (r:=BD K) AY (pv 2) AD (fun _ _=>rfl)) (pv 0) (fun _ _=>rfl)) (AA (CQ hu (pv 1) (pv 0) (fun _ _=>rfl)) AB)))))) AB))))))))))),?_⟩
  obtain⟨L,w0,rest,rfl,M,cs⟩:=hv.ak
  rcases cs with⟨rfl,rfl,rfl⟩|⟨d,u,rfl,rfl,rfl,Nn⟩|⟨g,m,u,rfl,rfl,rfl,Nn⟩|⟨G,g,ls,m,u,z,rfl,rfl,rfl,Nn,hz⟩
  ·exact⟨_,rfl,L,_,0,_,rfl,rfl,M,EC,rfl,_,rfl,Bl (by decide+kernel) (by simp only[Ak.lets]at q;exact q H (AG.refl H))⟩
  ·refine⟨_,rfl,L,_,0,_,rfl,rfl,M,EC,rfl,_,rfl,BK (by decide+kernel) ?_⟩
   refine⟨_,rfl,L,_,0,_,rfl,rfl,M,EC,rfl,_,rfl,Bl (by decide+kernel) ?_⟩
   simp only[Ak.Bu]at O
   simp only[Ak.dp]at iU
   simp only[Ak.lets]at q
   exact⟨_,rfl,L,_,1,u,rfl,rfl,M,Eb,_,rfl,d,t,Nn,hy,(fun b e=>by rw[e]at O;simp[Pt.doc]at O),.inl ⟨O,Z⟩,iU,q H (AG.refl H)⟩
  ·refine⟨_,rfl,L,_,0,_,rfl,rfl,M,EC,rfl,_,rfl,BK (by decide+kernel) ?_⟩
   refine⟨_,rfl,L,_,0,_,rfl,rfl,M,EC,rfl,_,rfl,BK (by decide+kernel) ?_⟩
   refine⟨_,rfl,L,_,0,_,rfl,rfl,M,EC,rfl,_,rfl,Bl (by decide+kernel) ?_⟩
   refine⟨_,rfl,_,"list",t.Uk,rfl,rfl,hy.ty,_,rfl,?_⟩
   simp only[Ak.Bu]at O
   simp only[Ak.deep]at eQ
   simp only[Ak.dp]at iU
   simp only[Ak.size]at za
   cases Nn with
   |@lst a vs _ ha ra=>
    have la:=ra.length
    rw[Ak.BG,List.length_map]at la
    have mi:=Ak.Cm g
    cases hy with
    |@lst b ws B hb rb=>
     have lb:=rb.length
     simp only[Pt.doc]at Z
     simp only[Pt.size]at zt
     simp only[Ak.lets]at q
     refine As ⟨_,rfl,b,_,rfl,.inl (.inl hb),_,rfl,L,_,1,_,rfl,rfl,M,Eb,a,_,rfl,.inl (.inl ha),_,_,rfl,rfl,_,rfl,?_⟩
     refine By (fun h1=>?_) (fun h1=>?_)
     ·have h1:=of_decide_eq_true h1
      have e:Ak.cnt B.length g.length m=false:=by
       have e1:(B.length==g.length)=false:=by simp;lia
       have S:decide (g.length<B.length)=false:=by simp;lia
       simp[Ak.cnt,e1,S]
      rw[e,Bool.false_and]at q
      exact Bq (q H (AG.refl H))
     have h1:=of_decide_eq_false h1
     have key:(Ak.cnt B.length g.length m=true->av
         (jT (Jm K)
          (Gh
           (VP
            (Zi
             (Gh
              (jT (FL K) (Gh (Xu (BD K) (Nv 0) (tC (V.int 1))) QW))
              QW))
            Qh
            (Rp (GB n) [] E0
             (Gh (Xu (CJ K) (Xu (BD K) (Nv 2) (tC (V.int 1))) (Nv 0))
              (Gh (Xu (CJ K) (Nv 1) (Nv 0)) QW)))
            [1,0])
           QW)) {nx:=fun x H'=>Q V.BV H',rt:=Q} [some (V.ref L),some (V.ref b),none] H):=fun hc=>by
      rw[hc,Bool.true_and]at q
      refine⟨_,rfl,L,_,1,_,rfl,rfl,M,Eb,a,_,rfl,.inl (.inl ha),vs.length,rfl,by lia,by lia,?_⟩
      refine CV (n:=vs.length) (fun i=>.int (0+(i:Int))) (fun i v=>∃p,(g.zip B)[i]?=some p/\v=.bl (Ak.lets p.1 p.2)) (Ad (by lia)) (fun i H2 I N=>I) (fun i H2 v H' I N y=>⟨y.2,y.1⟩) (fun H2 N=>Nat.le_refl _) (fun i H2 R I N r=>?_) (fun D H2 rs hD N d2 lr or=>?_)
      ·have e0:(0:Int)+(i:Int)=(i:Int):=by lia
       rw[e0]
       obtain⟨x,hx⟩:∃x,vs[i]?=some x:=⟨_,ACd I⟩
       obtain⟨y,hy⟩:∃y,ws[i]?=some y:=⟨_,ACd (by lia)⟩
       obtain⟨px,g1,vx⟩:=ra.get hx
       obtain⟨py,g2,vy⟩:=rb.get hy
       rw[Ak.BG,List.getElem?_map]at g1
       obtain⟨ax,U⟩:∃ax,g[i]?=some ax:=⟨_,ACd (by lia)⟩
       rw[U]at g1
       cases g1
       have m1:=ACg U
       have m2:=ACg g2
       have d1:=Ak.Ao m1;have d6:=Ak.HV m1
       have z1:=Ak.Bh m1
       have z2:=Pt.Bh m2
       refine⟨_,rfl,L,_,1,_,rfl,rfl,M.up N,Eb,_,rfl,a,_,_,x,rfl,rfl,.inl (ha.up (N _)),Av hx,_,rfl,_,rfl,b,_,_,y,rfl,rfl,.inl (hb.up (N _)),Av hy,x,y,ax,py,rfl,vx.up N,vy.up N,Ak.Au O _ m1,Pt.Ap Z _ m2,by lia,by lia,by lia,by lia,fun H3 s3=>r _ H3 s3 ⟨(ax,py),?_,rfl⟩⟩
       rw[List.getElem?_zip_eq_some]
       exact⟨U,g2⟩
      ·have lz:(g.zip B).length=g.length:=by rw[List.length_zip];lia
       have e:=SR (ps:=g.zip B) (f:=fun p=>Ak.lets p.1 p.2) (vs:=rs) (by lia) or
       rw[e]at d2
       refine⟨D,_,rfl,Ah.of d2,?_⟩
       have S:((g.zip B).map fun p=>Ak.lets p.1 p.2).all id=Ak.FW g B:=by rw[Ak.L_,List.all_map];rfl
       rw[S]
       exact q H2 N
     refine⟨_,rfl,L,_,2,_,rfl,rfl,M,at2,_,rfl,?_⟩
     cases m with
     |true=>
      refine As (As (key ?_))
      have:g.length<=B.length:=by lia
      rw[show Ak.cnt B.length g.length true=(B.length==g.length||decide (g.length<B.length))from rfl]
      rcases Nat.lt_or_ge g.length B.length with h|h
      ·simp[h]
      ·have:B.length=g.length:=by lia
       simp[this]
     |false=>
      refine Bq ⟨_,rfl,b,_,rfl,.inl (.inl hb),_,rfl,L,_,1,_,rfl,rfl,M,Eb,a,_,rfl,.inl (.inl ha),_,_,rfl,rfl,_,rfl,?_⟩
      refine By (fun h2=>?_) (fun h2=>?_)
      ·have h2:=of_decide_eq_true h2
       have e:Ak.cnt B.length g.length false=false:=by
        have e1:(B.length==g.length)=false:=by simp;lia
        simp[Ak.cnt,e1]
       rw[e,Bool.false_and]at q
       exact q H (AG.refl H)
      ·have h2:=of_decide_eq_false h2
       refine key ?_
       have:B.length=g.length:=by lia
       simp[Ak.cnt,this]
    |int i=>exact Bq (Bq (q H (AG.refl H)))
    |str i=>exact Bq (Bq (q H (AG.refl H)))
    |bl b=>simp[Pt.doc]at Z
    |tup _ _=>simp[Pt.doc]at Z
    |BM _ _ _=>exact Bq (Bq (q H (AG.refl H)))
  ·refine⟨_,rfl,L,_,0,_,rfl,rfl,M,EC,rfl,_,rfl,BK (by decide+kernel) ?_⟩
   refine⟨_,rfl,L,_,0,_,rfl,rfl,M,EC,rfl,_,rfl,BK (by decide+kernel) ?_⟩
   refine⟨_,rfl,L,_,0,_,rfl,rfl,M,EC,rfl,_,rfl,BK (by decide+kernel) ?_⟩
   refine⟨_,rfl,_,"dict",t.Uk,rfl,rfl,hy.ty,_,rfl,?_⟩
   simp only[Ak.Bu]at O
   simp only[Ak.deep]at eQ
   simp only[Ak.dp]at iU
   simp only[Ak.size]at za
   obtain⟨o1,o2,o3,o4,o5,o6,o7⟩:=O
   cases hy with
   |int i=>exact Bq (q H (AG.refl H))
   |str i=>exact Bq (q H (AG.refl H))
   |bl b=>simp[Pt.doc]at Z
   |tup _ _=>simp[Pt.doc]at Z
   |lst _ _=>exact Bq (q H (AG.refl H))
   |@BM b di Y B hb eD rb=>
    refine As ?_
    cases Nn with
    |@BM a kvs _ _ ha JW ra=>
     cases hz with
     |@lst l vl _ hl rl=>
      have kl:kvs.length=G.length:=by have:=congrArg List.length JW;simpa using this
      have nE:di.length=Y.length:=by have:=congrArg List.length eD;simpa using this
      simp only[Pt.doc]at Z
      simp only[Pt.size]at zt
      simp only[Ak.lets]at q
      rw[WO m o2 Z.2.1 o6]at q
      have cx:vl=ls.map V.str:=by
       have gen:∀{vs:List V} {ls:List Str},Aa H vs (ls.map Pt.str)->vs=ls.map V.str:=by
        intro vs ls
        induction ls generalizing vs with
        |nil=>intro h;cases h;rfl
        |cons x r ih=>
         intro h
         cases h with
         |cons h1 h2=>cases h1;rw[List.map_cons,ih h2]
       exact gen rl
      subst cx
      refine⟨b,di,hb,fun o Hf F=>⟨_,rfl,b,o,_,rfl,F.at_,?_⟩⟩
      refine Cv (n:=Y.length) (fun i=>.str (Y.getD i "")) (fun i=>.str (Y.getD i "")) (fun i=> !decide (Y.getD i ""∈G)) (Ad (by lia)) (fun i D B I hD=>⟨by rw[AJ (Ab F.at_ hD)];exact F.at_,by rw[nE];exact I⟩) (fun i D B v H' I hD y=>?_)
       (fun D B hD=>⟨by rw[AJ (Ab F.at_ hD)];exact F.at_,nE.symm⟩) (fun i D B R I hD r=>?_) (fun i D B R I hD _ r=>⟨_,rfl,r⟩) (fun D hD=>?_)
      ·obtain⟨e,k,w',e1,S⟩:=y
       rw[(Qz eD e1).2]at S
       exact⟨S,e⟩
      ·have lN:Rd (upd Hf D (.lst B)) a (.dK kvs):=(F.rd _ _ ha).up fun o e=>by rw[AJ (Ab e hD)];exact e
       have zG:=(M.Oq (Oo.CZ F)).up (AG.new (o:=.lst B) hD)
       refine⟨_,rfl,_,rfl,L,_,1,_,rfl,rfl,zG,Eb,a,_,rfl,.inl ⟨kvs,Sum.inr (Y.getD i ""),lN,rfl,rfl⟩,_,rfl,?_⟩
       rw[Ih JW]
       exact r
      ·have zH:=F.free hD
       refine⟨by rw[AJ (Ab F.at_ hD)];exact F.at_,?_⟩
       rw[EU Y fun n=> !decide (n∈G)]
       obtain⟨os,nF⟩:∃os,os=Y.filter fun n=> !decide (n∈G):=⟨_,rfl⟩
       rw[<-nF]at q⊢
       have los:os.length<=Y.length:=by rw[nF];exact List.length_filter_le _ _
       have s1:AG H (back b H (upd Hf D (.lst (os.map V.str)))):=F.back (AG.new hD)
       have fD:back b H (upd Hf D (.lst (os.map V.str))) D=some (.lst (os.map V.str)):=by rw[Fv zH.2,AE]
       generalize back b H (upd Hf D (.lst (os.map V.str)))=H1 at s1 fD⊢
       have Nm:=M.up s1
       have zI:=hb.up (s1 _)
       have eM:=ha.up (s1 _)
       dsimp only
       refine Qq (t:=Gg _ _ _) (fun H5=>AG H1 H5/\(decide (((Y.length:Nat):Int)-((os.length:Nat):Int)<((G.length:Nat):Int)))=false/\(m||os.isEmpty)=true) (fun H5 ⟨s5,c1,c2⟩=>?_) (fun key=>?_)
       rotate_left
       ·refine⟨_,rfl,b,di,rfl,zI,_,rfl,D,_,rfl,.inl (Ah.of fD),_,_,rfl,rfl,_,rfl,L,_,1,_,rfl,rfl,Nm,Eb,a,kvs,rfl,eM,_,_,rfl,rfl,_,rfl,?_⟩
        rw[nE,kl,List.length_map]
        refine By (fun h1=>?_) (fun h1=>?_)
        ·rw[h1,Bool.not_true,Bool.false_and,Bool.false_and,Bool.false_and]at q
         exact Bq (q H1 s1)
        refine⟨_,rfl,L,_,3,_,rfl,rfl,Nm,Av (j:=3) rfl,_,rfl,?_⟩
        cases m with
        |true=>exact As (As (key H1 ⟨AG.refl _,h1,rfl⟩))
        |false=>
         refine Bq ⟨_,rfl,Nat.zero_le _,fun pe MS=>⟨D,pe,_,rfl,rfl,Ah.of ((AG.new MS) _ _ fD),Ah.of AE,_,rfl,?_⟩⟩
         have se:=AG.new (o:=.lst []) MS
         cases os with
         |nil=>exact As (key _ ⟨se,h1,rfl⟩)
         |cons x r=>
          rw[h1]at q
          exact Bq (q _ (s1.trans se))
       ·have s05:=s1.trans s5
        rw[c1,c2,Bool.not_false,Bool.true_and,Bool.true_and]at q
        have nG:=s5 _ _ fD
        have jy:=M.up s05
        have cq:=hl.up (s05 _)
        have li:∀i,i<os.length->(os.map V.str)[i]?=some (.str (os.getD i "")):=fun i I=>by
         rw[List.getElem?_map,ACd I,List.getD_eq_getElem?_getD,ACd I]
         rfl
        have Ud:∀{D2:Addr} {zs:List V},H5 D2=none->upd H5 D2 (.lst zs) D=some (.lst (os.map V.str)):=fun h=>by rw[AJ (Ab nG h)];exact nG
        refine⟨_,rfl,D,rfl,⟨_,Ah.of nG⟩,?_⟩
        refine Cv (n:=os.length) (fun i=>.str (os.getD i "")) (fun i=>.str (os.getD i "")) (fun i=>decide (os.getD i ""∈ls)) (Ad (by lia)) (fun i D2 zs I J=>⟨_,_,Ah.of (Ud J),li i I⟩) (fun i D2 zs v H' I J y=>?_)
         (fun D2 zs J=>⟨_,Ah.of (Ud J),by rw[List.length_map];exact Nat.le_refl _⟩) (fun i D2 zs R I J r=>?_) (fun i D2 zs R I J _ r=>⟨_,rfl,r⟩) (fun D2 J=>?_)
        ·obtain⟨e,y⟩:=y
         have:=y _ (Ah.of (Ud J))
         rw[li i I]at this
         exact⟨(ACf this).symm,e⟩
        ·have uv:Rd (upd H5 D2 (.lst zs)) l (.lst (ls.map V.str)):=cq.up fun o e=>by rw[AJ (Ab e J)];exact e
         refine⟨_,rfl,_,rfl,L,_,2,_,rfl,rfl,jy.up (AG.new (o:=.lst zs) J),at2,l,_,rfl,.inl (.inl uv),rfl,?_,_,rfl,?_⟩
         ·rw[List.all_map]
          exact List.all_eq_true.mpr fun _ _=>rfl
         ·rw[KA]
          exact r
        ·rw[EU os fun n=>decide (n∈ls)]
         obtain⟨us,zJ⟩:∃us,us=os.filter fun n=>decide (n∈ls):=⟨_,rfl⟩
         rw[<-zJ]at q⊢
         have s6:=s05.trans (AG.new (o:=.lst (us.map V.str)) J)
         have f6:upd H5 D2 (.lst (us.map V.str)) D2=some (.lst (us.map V.str)):=AE
         generalize upd H5 D2 (.lst (us.map V.str))=H6 at s6 f6⊢
         refine⟨Nat.zero_le _,fun pe MS=>⟨D2,pe,_,rfl,rfl,Ah.of ((AG.new MS) _ _ f6),Ah.of AE,_,rfl,?_⟩⟩
         have s7:=s6.trans (AG.new (o:=.lst []) MS)
         generalize upd H6 pe (.lst [])=H7 at s7⊢
         cases us with
         |cons x r=>exact Bq (q H7 s7)
         |nil=>
          refine As ?_
          simp only[List.isEmpty_nil,Bool.true_and]at q
          have nH:∀k∈G,k∈Y:=by
           have c:=cntK o2 Z.2.1
           rw[<-nF]at c
           have c1:=of_decide_eq_false c1
           have le:(G.filter fun k=>decide (k∈Y)).length<=G.length:=List.length_filter_le _ _
           have:=List.length_filter_eq_length_iff.mp (show(G.filter fun k=>decide (k∈Y)).length=G.length by lia)
           exact fun k hk=>of_decide_eq_true (this k hk)
          obtain⟨bs,S⟩:=IK Z.1 (ss:=G) nH
          rw[Ak.GZ,WL _ o1 o2 (.refl _) (Fw o1 o2) S]at q
          have lbs:bs.length=G.length:=by have:=congrArg List.length S;simpa using this.symm
          have zK:=M.up s7
          have nJ:=ha.up (s7 _)
          refine⟨a,kvs,nJ,fun zL Hf2 F2=>⟨_,rfl,L,_,1,.ref a,rfl,rfl,zK.Oq (Oo.CZ F2),Eb,a,zL,_,rfl,F2.at_,?_⟩⟩
          refine CV (n:=G.length) (fun i=>.str (G.getD i "")) (fun i v=>∃p,(g.zip bs)[i]?=some p/\v=.bl (Ak.lets p.1 p.2)) (Ad (by lia)) (fun i H2 I N=>⟨N _ _ F2.at_,by lia⟩) (fun i H2 v H' I N y=>?_) (fun H2 N=>⟨N _ _ F2.at_,by lia⟩) (fun i H2 R I N r=>?_) (fun D3 H2 rs aQ N d2 lr or=>?_)
          ·obtain⟨e,k,w',e1,S⟩:=y
           rw[(Qz JW e1).2]at S
           exact⟨S,e⟩
          ·have kp:Oo H H2:=((Oo.of s7).trans (Oo.CZ F2)).trans (.of N)
           obtain⟨x,px,g1,g2,g3⟩:=NA JW ra o2 I
           obtain⟨ax,U⟩:∃ax,g[i]?=some ax:=⟨_,ACd (by lia)⟩
           rw[Ak.BG,List.getElem?_map,U]at g2
           cases g2
           have hk:G[i]?=some (G.getD i ""):=by rw[List.getD_eq_getElem?_getD,ACd I];rfl
           have mk:G.getD i ""∈G:=ACg hk
           obtain⟨pb,uw⟩:∃pb,bs[i]?=some pb:=⟨_,ACd (by lia)⟩
           have e3:lk Y B (G.getD i "")=some pb:=by
            have:=congrArg (fun z=>z[i]?) S
            simp only[List.getElem?_map,hk,uw]at this
            exact ACf this
           rcases Val.C' eD rb (G.getD i "")with⟨y,ty,k1,k2,vy⟩|⟨_,k2⟩
           ·have e4:ty=pb:=ACf (k2.symm.trans e3)
            subst e4
            have m1:=ACg U
            have m2:=(Dg e3).2
            have d1:=Ak.Ao m1;have d6:=Ak.HV m1
            have z1:=Ak.Bh m1
            have z2:=Pt.Bh m2
            refine⟨_,rfl,L,_,1,_,rfl,rfl,M.Oq kp,Eb,_,rfl,a,x,rfl,.inl ⟨kvs,Sum.inr (G.getD i ""),kp.rd _ _ ha,rfl,g1.symm⟩,_,rfl,_,rfl,b,y,rfl,.inl ⟨di,Sum.inr (G.getD i ""),kp.rd _ _ hb,rfl,k1.symm⟩,x,y,ax,ty,rfl,g3.Oq kp,vy.Oq kp,Ak.Au o7 _ m1,Pt.Ap Z.2.2.2.2 _ m2,by lia,by lia,by lia,by lia,fun H3 s3=>r _ H3 s3 ⟨(ax,ty),?_,rfl⟩⟩
            rw[List.getElem?_zip_eq_some]
            exact⟨U,uw⟩
           ·exact absurd (k2.symm.trans e3) (fun z=>nomatch z)
          ·refine⟨N _ _ F2.at_,?_⟩
           have lz:(g.zip bs).length=G.length:=by rw[List.length_zip];lia
           have e:=SR (ps:=g.zip bs) (f:=fun p=>Ak.lets p.1 p.2) (vs:=rs) (by lia) or
           rw[e]at d2
           have Da:D3≠a:=(F2.free aQ).2
           have sb:=s7.trans (F2.back N)
           have d3:back a H7 H2 D3=some (.lst (((g.zip bs).map fun p=>Ak.lets p.1 p.2).map V.bl)):=by rw[Fv Da];exact d2
           refine⟨D3,_,rfl,Ah.of d3,?_⟩
           have S:((g.zip bs).map fun p=>Ak.lets p.1 p.2).all id=(g.zip bs).all fun p=>Ak.lets p.1 p.2:=by rw[List.all_map];rfl
           rw[S]
           exact q _ sb
theorem QE {f:Addr} {c:FuncData} (F:Dp K "_law_lets" "_law_lets" Kt f c) (T:Txt mg) (b:Binds K c ["_law_asks_here","_law_doc_here"] []) (m:mg "_law_lets"=some (.ref f)):∀n:Nat,BX P w K mg base DH n f c ["_law_asks_here","_law_doc_here"] (GB n)
 |0=>Ic (fun vs H Q E h=>by obtain⟨_,_,a,_,_,_,_,_,_,_,_,_,d,_⟩:=h;have:=Ak.De a;omega)
 |n+1=>ZU F T (Df.mk' F b m (QE F T b m n))
end
end Cg
namespace Cg
open PySem L2
section
variable{P:Program} {w:World} {K:ACh} [BA K] {mg:Str->Option Value} {base:Heap}
theorem QF:Ax ["_law_asks_here","_law_inner"] ["_law_asks_here"] (AL Ex):=⟨rfl,rfl,rfl,by decide+kernel,rfl,by decide+kernel,by decide+kernel⟩
theorem Ug {n:Nat} {f:Addr} {fd:FuncData} (F:Dp K "_law_is_good" "_law_is_good" Ex f fd) (T:Txt mg) (X:Df P w K mg base "_law_is_good" ["_law_asks_here"] n (Fl n)) (dC:mg "set"=none):BX P w K mg base DH (n+1) f fd ["_law_asks_here"] (Fl (n+1)):=by
 obtain⟨ZV,ZW,Y,Z,ZX,ZY⟩:=X.ex
 refine F.ok QF (fun d H Q E h=>?_) (fun LF A outer s H d Q E hr h=>?_)
 ·obtain⟨G,v,a0,rfl,pl,ux,BO,hg,eQ,za,q⟩:=h
  rfl
 ·obtain⟨G,v,a0,rfl,pl,ux,BO,hg,eQ,za,q⟩:=h
  have nd:=QF.nd
  have hu:=Bw hr
  have O:Aj n _:=hr.mono (by first|decide|omega)
  refine⟨_,(AF (Af (PW.pt (ED (DS (A_ (AM (Ba:BJ _ _ (DE K)) rfl T.isinstance AZ (AA (pv 0) (AA (BE (v:=.ty "tuple") rfl T.tuple JO rfl) AB))))) (Ed (AQ (Wq (Aj.units hr):Dy _ _ (US K)) (pv 0) (BF AB) (AU _))))) (AH (AR Ct)) AO)
   (AF (Af (AQ (Wq (Aj.units hr):Dy _ _ (US K)) (pv 0) (BF (AA Ag AB)) (AU _)) (AH (AR Ct)) AO)
   (AF (Af (AQ Bk (AS (r:=BD K) AY (pv 0) AD (fun _ _=>rfl)) Ag (AU _)) (AH (AR (Cj Bk (AM Ae rfl T.len PySem.boot_len (AA (pv 0) AB)) AD (AU _)))) AO)
   (AF (Af (PW.pt (CD (AQ Bk (AS (r:=BD K) AY (pv 0) AD (fun _ _=>rfl)) Ag (AU _)) (CD (AQ Bk (AM Ae rfl T.len PySem.boot_len (AA (pv 0) AB)) AD (AU _)) (CD (A_ (AM (Ba:BJ _ _ (DE K)) rfl T.isinstance AZ (AA (AS (r:=BD K) AY (pv 0) AD (fun _ _=>rfl)) (AA (BE (v:=.ty "list") rfl T.list Bv rfl) AB)))) (CF (A_ (AM (Ba:BJ _ _ (DE K)) rfl T.isinstance AZ (AA (AS (r:=BD K) AY (pv 0) AD (fun _ _=>rfl)) (AA (BE (v:=.ty "bool") rfl T.bool Va rfl) AB))))))))) (AH (AX (i:=1) nd rfl (Or.inl rfl) (AS (r:=BD K) AY (pv 0) AD (fun _ _=>rfl)))) (AH (Af (PW.pt (CD (AQ Bk (AS (r:=BD K) AY (pv 0) AD (fun _ _=>rfl)) Ag (AU _)) (CD (AQ Bk (AM Ae rfl T.len PySem.boot_len (AA (pv 0) AB)) AD (AU _)) (CD (A_ (AM (Ba:BJ _ _ (DE K)) rfl T.isinstance AZ (AA (AS (r:=BD K) AY (pv 0) AD (fun _ _=>rfl)) (AA (BE (v:=.ty "dict") rfl T.dict CM rfl) AB)))) (CF (A_ (AM (Ba:BJ _ _ (DE K)) rfl T.isinstance AZ (AA (AS (r:=BD K) AY (pv 0) AD (fun _ _=>rfl)) (AA (BE (v:=.ty "bool") rfl T.bool Va rfl) AB))))))))) (AF (AX (i:=1) nd rfl (Or.inl rfl) (BB (JH rfl) rfl T.list Bv (AA (VF PySem.F.plainAttrs_dict PySem.F.slot_dict_values PySem.F.type_dict_values RX (AS (r:=BD K) AY (pv 0) AD (fun _ _=>rfl))) AB)))
   (AF (Af (PW.pt (ED (DS (A_ (AM (Ba:BJ _ _ (DE K)) rfl T.isinstance AZ (AA (AS (r:=BD K) AY (pv 0) AD (fun _ _=>rfl)) (AA (BE (v:=.ty "list") rfl T.list Bv rfl) AB))))) (ED (AQ (bp (Aj.DT hr)) (AM (NM rfl:BJ _ _ (RO P w)) rfl T.sorted Co (AA (BB (UP rfl:BJ _ _ (We K P w)) rfl dC gW (AA (AS (r:=BD K) AY (pv 0) AD (fun _ _=>rfl)) AB)) AB)) (AS (r:=BD K) AY (pv 0) AD (fun _ _=>rfl)) (AU _)) (Ed (PW.pt (CD (AQ (FP (Aj.DT hr)) (AS (r:=BD K) AY (pv 0) AD (fun _ _=>rfl)) (A' AB) (AU _)) (CF (DS (A_ (AS (r:=BD K) AY (pv 0) AD (fun _ _=>rfl))))))))))) (AH (AR Ct)) AO)
   (AH (Af (AQ (FP (Aj.DT hr)) (BI (fv:=["_law_asks_here"]) (fs:=[0]) rfl (.of (by rfl)) (Br (AS (r:=BD K) AY (pv 0) AD (fun _ _=>rfl))) (fun C s0 H0 fp=>Fs (Jc (bP hu (pv 0) (AS (r:=BD K) AY (pv 1) AD (fun _ _=>rfl))))) (fun C s0 H0 fp=>(pv 0))) (A' AB) (AU _)) (AH (AR Ct)) AO)))) (AH (AR Ct)))))
   (AF (Af (DS (A_ (AM (Jn rfl) rfl T.all Vb (AA (BI (fv:=[]) (fs:=[]) rfl (.of (by rfl)) (Br (pv 1)) (fun _ _ _ _=>BR) (fun C s0 H0 fp=>(AK ZY O rfl ZX Y Z .nil AV (AA (pv 0) AB)))) AB)))) (AH (AR Ct)) AO)
   (AH (AR (eo (AS (r:=BD K) AY (pv 0) (Rk Mb AD) (fun _ _=>rfl)) (Us (Cj (FP (Aj.DT hr)) (BI (fv:=[]) (fs:=[]) rfl (.of (by rfl)) (Br (pv 1)) (fun C s0 H0 fp=>Fs (AQ Ux (AS (r:=BD K) AY (pv 0) AD (fun _ _=>rfl)) Ag (AU _))) (fun C s0 H0 fp=>(pv 0))) (A' AB) (AU _))))))))))),?_⟩
  obtain⟨g,w0,rest,rfl,Xo,kk⟩:=Ak.kinds ux BO hg eQ za
  have ht:Bj K H g (.str w0::rest):=Xo.imp (fun r=>.inl (pl _ _ trivial r)) id
  refine⟨_,rfl,_,"tuple","tuple",rfl,rfl,.t ht,_,rfl,As ?_⟩
  refine⟨_,rfl,Nat.zero_le _,fun p1 cn=>.nil g p1 w0 rest rfl rfl (ht.put cn) (Bj.of AE) ⟨_,rfl,As ?_⟩⟩
  have s1:=AG.new (o:=.tup []) cn
  generalize upd H p1 (.tup [])=H1 at s1⊢
  refine⟨_,rfl,Bs,fun p2 JI=>?_⟩
  have B:=s1.trans (AG.new (o:=.tup [V.str "any"]) JI)
  have f2:upd H1 p2 (.tup [V.str "any"]) p2=some (.tup [V.str "any"]):=AE
  generalize upd H1 p2 (.tup [V.str "any"])=H2 at B f2⊢
  have c:=ht.up B
  rcases kk with⟨rfl,rfl⟩|⟨rfl,u,rfl⟩|⟨J,m,kg,ko,kd,kz,km,kl,kc⟩
  ·exact .same g p2 "any" rfl rfl c (Bj.of f2) ⟨_,rfl,Bq (q H2 B)⟩
  ·refine .other g p2 "just" "any" _ rfl rfl c (Bj.of f2) (by decide) ⟨_,rfl,As ?_⟩
   refine⟨_,rfl,g,_,0,_,rfl,rfl,c,EC,rfl,_,rfl,Bl (by decide+kernel) ?_⟩
   exact⟨_,rfl,g,_,rfl,.inr c,rfl,q H2 B⟩
  have wn:w0≠"any"/\w0≠"just":=by
   rcases kc with⟨rfl,_⟩|⟨rfl,_⟩
   ·exact⟨by decide,by decide⟩
   ·exact⟨by decide,by decide⟩
  refine .other g p2 w0 "any" _ rfl rfl c (Bj.of f2) wn.1 ⟨_,rfl,As ?_⟩
  refine⟨_,rfl,g,_,0,_,rfl,rfl,c,EC,rfl,_,rfl,BK (decide_eq_false fun z=>wn.2 (V.str.inj z)) ?_⟩
  dsimp only[Zh]
  refine FU (t:=Gg _ _ _) (fun σ' H5=>∃(D:Addr) (d:List V),σ'=[some (.ref g),some (.ref D)]/\AG H H5/\Rd H5 D (.lst d)/\Aa G d (Ak.D' J)) (fun σ' H5 ⟨D,d,es,s5,hD,rv⟩=>?_) (fun key=>?_)
  rotate_left
  ·rcases kc with⟨rfl,a,d,rfl,ha,ra⟩|⟨rfl,a,kvs,ks,lz,p,rfl,ha,JW,ra,zM,ml,dj⟩
   ·have I:=B _ _ (pl a (.lst d) trivial ha)
    refine⟨_,rfl,g,_,0,_,rfl,rfl,c,EC,rfl,_,rfl,Bl (by decide+kernel) ?_⟩
    refine⟨_,rfl,g,_,rfl,.inr c,rfl,_,rfl,Bl rfl ?_⟩
    refine⟨_,rfl,g,_,1,_,rfl,rfl,c,Eb,_,"list","list",rfl,rfl,.n (.lst (.inl I)),_,rfl,Bl rfl ?_⟩
    refine⟨_,rfl,g,_,2,_,rfl,rfl,c,at2,_,"bool","bool",rfl,rfl,.n (.bl m),_,rfl,Bl rfl ?_⟩
    exact⟨_,rfl,g,_,1,_,rfl,rfl,c,Eb,key _ _ ⟨a,d,rfl,B,.inl I,ra⟩⟩
   ·have I:=B _ _ (pl a (.dK kvs) trivial ha)
    have XP:=B _ _ (pl lz (.lst (p.map V.str)) trivial zM)
    have lf:p.length<=60/\p.Nodup/\PyProof.Rows.sortedS p=true:=by
     rcases ml with⟨_,h⟩|⟨_,rfl⟩
     ·exact h
     ·exact⟨by simp,.nil,rfl⟩
    have fl:∀z∈p.map V.str,Cd z=true:=fun z hz=>by
     obtain⟨y,_,rfl⟩:=List.mem_map.mp hz
     rfl
    refine⟨_,rfl,g,_,0,_,rfl,rfl,c,EC,rfl,_,rfl,BK (by decide+kernel) ?_⟩
    refine⟨_,rfl,g,_,0,_,rfl,rfl,c,EC,rfl,_,rfl,Bl (by decide+kernel) ?_⟩
    refine⟨_,rfl,g,_,rfl,.inr c,rfl,_,rfl,Bl rfl ?_⟩
    refine⟨_,rfl,g,_,1,_,rfl,rfl,c,Eb,_,"dict","dict",rfl,rfl,.n (.dK (.inl I)),_,rfl,Bl rfl ?_⟩
    refine⟨_,rfl,g,_,3,_,rfl,rfl,c,Av (j:=3) rfl,_,"bool","bool",rfl,rfl,.n (.bl m),_,rfl,Bl rfl ?_⟩
    refine⟨_,rfl,g,_,1,_,rfl,rfl,c,Eb,.inr (.inr (.inl ⟨rfl,.inl ⟨_,I⟩⟩)),a,kvs,rfl,rfl,.inl I,fun pv zN=>?_⟩
    have s3:=AG.new (o:=Im pv a) zN
    have f3:upd H2 pv (Im pv a) pv=some (Im pv a):=AE
    generalize upd H2 pv (Im pv a)=H3 at s3 f3⊢
    refine⟨pv,a,kvs,rfl,f3,.inl (s3 _ _ I),fun pD zO=>?_⟩
    have s4:=s3.trans (AG.new (o:=.lst (kvs.map (·.2))) zO)
    have f4:upd H3 pD (.lst (kvs.map (·.2))) pD=some (.lst (kvs.map (·.2))):=AE
    generalize upd H3 pD (.lst (kvs.map (·.2)))=H4 at s4 f4⊢
    have S:=c.up s4
    have La:=s4 _ _ XP
    dsimp only[Dm]
    refine FU (t:=Gg _ _ _) (fun σ' H5=>σ'=[some (.ref g),some (.ref pD)]/\AG H4 H5) (fun σ' H5 ⟨es,s5⟩=>?_) (fun Xf=>?_)
    rotate_left
    ·refine⟨_,rfl,g,_,2,_,rfl,rfl,S,at2,_,"list","list",rfl,rfl,.n (.lst (.inl La)),_,rfl,As ?_⟩
     refine⟨_,rfl,g,_,2,_,rfl,rfl,S,at2,lz,p,rfl,Ah.of La,lf.2.1,by lia,fun ps zP=>⟨ps,p,rfl,AE,by lia,fun p6 ss H6 uy s6 f6 pm so=>?_⟩⟩
     have e6:ss=p:=CN so lf.2.2 pm
     subst e6
     have s46:=(AG.new zP).trans s6
     refine⟨_,rfl,g,_,2,_,rfl,rfl,S.up s46,at2,p6,lz,_,_,rfl,rfl,Ah.of f6,Ah.of (s46 _ _ La),fl,fl,?_⟩
     rw[Tv fl]
     refine⟨_,rfl,As ?_⟩
     refine⟨_,rfl,g,_,2,_,rfl,rfl,S.up s46,at2,Nat.zero_le _,fun pe L=>?_⟩
     have U:=s46.trans (AG.new (o:=.lst []) L)
     have f7:upd H6 pe (.lst []) pe=some (.lst []):=AE
     generalize upd H6 pe (.lst [])=H7 at U f7⊢
     refine⟨lz,pe,_,rfl,rfl,Ah.of (U _ _ La),Ah.of f7,_,rfl,?_⟩
     rcases ml with⟨rfl,_⟩|⟨rfl,rfl⟩
     ·refine By (fun _=>?_) (fun _=>As (Xf _ _ ⟨rfl,U⟩))
      exact⟨_,rfl,g,_,3,_,rfl,rfl,S.up U,Av (j:=3) rfl,_,rfl,As (Xf _ _ ⟨rfl,U⟩)⟩
     ·exact As (As (Xf _ _ ⟨rfl,U⟩))
    ·subst es
     have jy:=S.up s5
     have cq:=s5 _ _ La
     have Xg:=s5 _ _ (s4 _ _ I)
     have li:∀i,i<p.length->(p.map V.str)[i]?=some (.str (p.getD i "")):=fun i l=>by
      rw[List.getElem?_map,ACd l,List.getD_eq_getElem?_getD,ACd l]
      rfl
     refine⟨_,rfl,g,_,2,_,rfl,rfl,jy,at2,lz,rfl,⟨_,Ah.of cq⟩,?_⟩
     have M:∀{k:Addr} {N:List V},H5 k=none->upd H5 k (.lst N) lz=some (.lst (p.map V.str)):=fun h=>by rw[AJ (Ab cq h)];exact cq
     refine Cv (n:=p.length) (fun i=>.str (p.getD i "")) (fun i=>.str (p.getD i "")) (fun i=>decide (p.getD i ""∈ks)) (Ad (by lia)) (fun i k N l b=>⟨_,_,Ah.of (M b),li i l⟩) (fun i k N v H' l b y=>?_)
      (fun k N b=>⟨_,Ah.of (M b),by rw[List.length_map];exact Nat.le_refl _⟩) (fun i k N R l b r=>?_) (fun i k N R l b _ r=>⟨_,rfl,r⟩) (fun k b=>?_)
     ·obtain⟨e,y⟩:=y
      have:=y _ (Ah.of (M b))
      rw[li i l]at this
      exact⟨(ACf this).symm,e⟩
     ·have aY:upd H5 k (.lst N) a=some (.dK kvs):=by rw[AJ (Ab Xg b)];exact Xg
      refine⟨_,rfl,_,rfl,g,_,1,_,rfl,rfl,jy.put b,Eb,a,_,rfl,.inl ⟨kvs,Sum.inr (p.getD i ""),.inl aY,rfl,rfl⟩,_,rfl,?_⟩
      rw[Ih JW]
      exact r
     ·rw[EU p fun n=>decide (n∈ks)]
      have e0:p.filter (fun n=>decide (n∈ks))=[]:=List.filter_eq_nil_iff.mpr fun x hx=>by simpa using dj x hx
      rw[e0]
      have s6:=AG.new (o:=.lst (([]:List Str).map V.str)) b
      have f6:upd H5 k (.lst (([]:List Str).map V.str)) k=some (.lst []):=AE
      generalize upd H5 k (.lst (([]:List Str).map V.str))=H6 at s6 f6⊢
      refine⟨Nat.zero_le _,fun pe L=>?_⟩
      have U:=s6.trans (AG.new (o:=.lst []) L)
      refine⟨k,pe,_,rfl,rfl,Ah.of ((AG.new L) _ _ f6),Ah.of AE,_,rfl,As (key _ _ ⟨pD,_,rfl,((B.trans s4).trans s5).trans U,.inl (U _ _ (s5 _ _ f4)),ra⟩)⟩
  ·subst es
   have lv:=rv.length
   rw[Ak.BG,List.length_map]at lv
   have lx:=Ak.Cm J
   have gi:∀{i:Nat} {x:V},d[i]?=some x->d.getD i .BV=x:=fun h=>by rw[List.getD_eq_getElem?_getD,h];rfl
   refine⟨_,rfl,D,rfl,⟨_,.inl hD⟩,CV (n:=d.length) (fun i=>d.getD i .BV) (fun _ v=>v=.bl true) (Ad (by lia)) (fun i H2 l B=>⟨_,_,B.seq (.inl hD),ACd l⟩) (fun i H2 v H' l B y=>?_) (fun H2 B=>⟨_,B.seq (.inl hD),Nat.le_refl _⟩) (fun i H2 R l B r=>?_) (fun D3 H6 rs aQ s6 d6 lr or=>?_)⟩
   ·obtain⟨e,y⟩:=y
    exact⟨(gi (y _ (B.seq (.inl hD)))).symm,e⟩
   ·obtain⟨x,hx⟩:∃x,d[i]?=some x:=⟨_,ACd l⟩
    obtain⟨px,g1,vx⟩:=rv.get hx
    obtain⟨ax,JK⟩:∃ax,J[i]?=some ax:=⟨_,ACd (by lia)⟩
    rw[Ak.BG,List.getElem?_map,JK]at g1
    cases g1
    have m1:=ACg JK
    have d1:=Ak.Ao m1
    have z1:=Ak.Bh m1
    rw[gi hx]
    exact⟨_,rfl,G,x,ax,rfl,(pl.up s5).up B,vx,Ak.Au ko _ m1,Ak.Pc kg _ m1,by lia,by lia,fun H3 s3=>r _ H3 s3 rfl⟩
   have e:rs=(List.replicate d.length true).map V.bl:=by
    rw[List.map_replicate]
    refine List.eq_replicate_iff.mpr ⟨lr,fun z hz=>?_⟩
    obtain⟨i,l,rfl⟩:=List.getElem_of_mem hz
    exact or i _ (ACd l)
   rw[e]at d6
   refine⟨D3,_,rfl,Ah.of d6,?_⟩
   have ea:(List.replicate d.length true).all id=true:=by simp
   rw[ea]
   refine⟨_,rfl,As ?_⟩
   have s56:=s5.trans s6
   refine⟨_,rfl,_,rfl,g,_,-1,.bl m,rfl,rfl,ht.up s56,kl,m,rfl,?_⟩
   cases m with
   |true=>exact Bq (q _ s56)
   |false=>
    refine As ?_
    have u_:=hD.up (s6 _)
    have kn:Ak.CI J=none:=km.resolve_left (fun z=>nomatch z)
    obtain⟨j,xj,hj,wj⟩:=Ak.ML kn
    refine⟨_,rfl,D,rfl,⟨_,.inl u_⟩,?_⟩
    have M:∀{k:Addr} {N:List V},H6 k=none->Ah K (upd H6 k (.lst N)) D d:=fun h=>(AG.new h).seq (.inl u_)
    refine Cv (n:=d.length) (fun i=>d.getD i .BV) (fun i=>d.getD i .BV) (fun i=> !decide ((J.getD i .any).word="just")) (Ad (by lia)) (fun i k N l b=>⟨_,_,M b,ACd l⟩) (fun i k N v H' l b y=>?_)
     (fun k N b=>⟨_,M b,Nat.le_refl _⟩) (fun i k N R l b r=>?_) (fun i k N R l b _ r=>⟨_,rfl,r⟩) (fun k b=>?_)
    ·obtain⟨e,y⟩:=y
     exact⟨(gi (y _ (M b))).symm,e⟩
    ·obtain⟨x,hx⟩:∃x,d[i]?=some x:=⟨_,ACd l⟩
     obtain⟨px,g1,vx⟩:=rv.get hx
     obtain⟨ax,JK⟩:∃ax,J[i]?=some ax:=⟨_,ACd (by lia)⟩
     rw[Ak.BG,List.getElem?_map,JK]at g1
     cases g1
     have ex:J.getD i .any=ax:=by rw[List.getD_eq_getElem?_getD,JK];rfl
     rw[gi hx]
     rw[ex]at r
     obtain⟨t1,r1,rfl,h1⟩:=((pl.up s56).val vx).word
     refine⟨_,rfl,t1,_,0,_,rfl,rfl,h1.put b,EC,rfl,_,rfl,?_⟩
     have ed:decide (V.str ax.word=V.str "just")=decide (ax.word="just"):=by
      rw[Bool.eq_iff_iff,decide_eq_true_iff,decide_eq_true_iff]
      exact⟨V.str.inj,fun z=>by rw[z]⟩
     rw[ed]
     exact r
    ·have U:=AG.new (o:=.lst (((List.range d.length).filter fun i=> !decide ((J.getD i .any).word="just")).map fun i=>d.getD i .BV)) b
     have ne:(((List.range d.length).filter fun i=> !decide ((J.getD i .any).word="just")).map fun i=>d.getD i V.BV).isEmpty=false:=by
      have hjl:=(ACe hj).1
      have ex:J.getD j .any=xj:=by rw[List.getD_eq_getElem?_getD,hj];rfl
      have hm:d.getD j V.BV∈((List.range d.length).filter fun i=> !decide ((J.getD i .any).word="just")).map fun i=>d.getD i V.BV:=List.mem_map.mpr ⟨j,List.mem_filter.mpr ⟨List.mem_range.mpr (by lia),by rw[ex];simpa using wj⟩,rfl⟩
      cases hc:((List.range d.length).filter fun i=> !decide ((J.getD i .any).word="just")).map fun i=>d.getD i V.BV with
      |nil=>rw[hc]at hm;exact nomatch hm
      |cons _ _=>rfl
     have f7:upd H6 k (.lst (((List.range d.length).filter fun i=> !decide ((J.getD i .any).word="just")).map fun i=>d.getD i .BV)) k=some (.lst (((List.range d.length).filter fun i=> !decide ((J.getD i .any).word="just")).map fun i=>d.getD i .BV)):=AE
     generalize upd H6 k (.lst (((List.range d.length).filter fun i=> !decide ((J.getD i .any).word="just")).map fun i=>d.getD i .BV))=H7 at U f7⊢
     refine⟨Nat.zero_le _,fun pe L=>⟨k,pe,_,rfl,rfl,Ah.of ((AG.new L) _ _ f7),Ah.of AE,?_⟩⟩
     rw[ne]
     exact q _ ((s56.trans U).trans (AG.new L))
theorem LA {f:Addr} {d:FuncData} (F:Dp K "_law_is_good" "_law_is_good" Ex f d) (T:Txt mg) (b:Binds K d ["_law_asks_here"] []) (m:mg "_law_is_good"=some (.ref f)) (c:mg "set"=none):∀n:Nat,BX P w K mg base DH n f d ["_law_asks_here"] (Fl n)
 |0=>Ic (fun vs H Q E h=>by obtain⟨_,_,a,_,_,_,_,_,e,_⟩:=h;have:=Ak.De a;omega)
 |n+1=>Ug F T (Df.mk' F b m (LA F T b m c n)) c
end
end Cg
namespace Cg
open PySem L2
section
variable{P:Program} {w:World} {K:ACh} [BA K] {mg:Str->Option Value} {base:Heap}
theorem QG:Ax ["_law_asks_here","_law_cells","_law_names_here","_law_cell_here","_law_doc_here","_law_told","_law_lacking"] ["_law_asks_here","_law_cells","_law_names_here"] (AL Ey):=⟨rfl,rfl,rfl,by decide+kernel,rfl,by decide+kernel,by decide+kernel⟩
theorem Uh {n:Nat} {f:Addr} {fd:FuncData} (F:Dp K "_law_spread" "_law_spread" Ey f fd) (T:Txt mg) (Kz:Df P w K mg base "_law_mix" ["_law_cell_here","_law_k"] 1 Dr) (K':Df P w K mg base "_law_copy" ["_law_thing"] 20 (Cc 20)) (Ni:Df P w K mg base "_law_spread" ["_law_asks_here","_law_cells","_law_names_here"] n (Fi n)):BX P w K mg base DH (n+1) f fd ["_law_asks_here","_law_cells","_law_names_here"] (Fi (n+1)):=by
 obtain⟨Ub,Uc,LW,LX,LY,LZ⟩:=Kz.ex
 obtain⟨XR,XS,MT,MU,MV,MW⟩:=K'.ex
 obtain⟨ZZ,Za,GG,GH,GK,GL⟩:=Ni.ex
 refine F.ok QG (fun vs H Q E h=>?_) (fun LF A outer s H vs Q E hr h=>?_)
 ·obtain⟨w,a0,l,nm,cs,ys,rfl,hw,BO,hj,hd,Ui,za,hl,lc,nl,hn,q⟩:=h
  rfl
 ·obtain⟨w,a0,l,nm,cs,ys,rfl,hw,BO,hj,hd,Ui,za,hl,lc,nl,hn,q⟩:=h
  have nd:=QG.nd
  have hu:=Bw hr
  have Iu:Aj 1 _:=hr.mono (by first|decide|omega)
  have IY:Aj 20 _:=hr.mono (by first|decide|omega)
  have U:Aj n _:=hr.mono (by first|decide|omega)
  refine⟨_,(AF (AX (i:=3) nd rfl (Or.inl rfl) AD)
   (AF (Af (AQ (FP (Aj.DT hr)) (pv 1) (A' AB) (AU _)) (AH (AX (i:=3) nd rfl (Or.inl rfl) (DY (Gj PySem.F.plainAttrs_list PySem.F.slot_list_pop PySem.F.type_list_pop Gk (pv 1) (AA AD AB)) (Gp (pv 1) AD ⟨rfl,rfl,rfl,rfl⟩)))) AO)
   (AF (Af (AQ Bk (AS (r:=BD K) AY (pv 0) AD (fun _ _=>rfl)) Ag (AU _)) (AH (AR (BF (AA Ag AB)))) AO)
   (AF (Af (AQ Bk (AS (r:=BD K) AY (pv 0) AD (fun _ _=>rfl)) Ag (AU _)) (AF (AX (i:=4) nd rfl (Or.inr rfl) (AS (r:=BD K) AY (pv 0) AD (fun _ _=>rfl)))
   (AF (Af (PW.pt (CD (A_ (AM (Ba:BJ _ _ (DE K)) rfl T.isinstance AZ (AA (pv 4) (AA (BE (v:=.ty "list") rfl T.list Bv rfl) AB)))) (CF (AQ Ld (AN Aq (AK LZ Iu rfl LY LW LX .nil AV (AA (pv 3) (AA AD AB))) AD) AD (AU _))))) (AH (AR (BF (AA Ag (AA (BI (fv:=["_law_cells","_law_names_here"]) (fs:=[1,2]) rfl (.of (by rfl)) (Br (pv 4)) (fun _ _ _ _=>BR) (fun C s0 H0 fp=>(AK GL U rfl GK GG GH .nil AV (AA (BF (AA Ag (AA (pv 0) AB))) (AA (pv 1) (AA (pv 2) AB)))))) (AA Ct AB)))))) AO)
   (AF (Af (PW.pt (CD (A_ (AM (Ba:BJ _ _ (DE K)) rfl T.isinstance AZ (AA (pv 4) (AA (BE (v:=.ty "dict") rfl T.dict CM rfl) AB)))) (CF (AQ Ld (AN Aq (AK LZ Iu rfl LY LW LX .nil AV (AA (pv 3) (AA AD AB))) AD) AD (AU _))))) (AF (AX (i:=5) nd rfl (Or.inr rfl) (BB (Cb rfl) rfl T.dict CM (AA (BI (fv:=["_law_cells","_law_names_here","_law_doc_here"]) (fs:=[1,2,4]) rfl (.of (by rfl)) (Wz rfl T.reversed Js (AA (AM (Cn rfl) rfl T.sorted Co (AA (pv 4) AB)) AB)) (fun _ _ _ _=>BR) (fun C s0 H0 fp=>(BF (AA (pv 0) (AA (AK GL U rfl GK GG GH .nil AV (AA (BF (AA Ag (AA (CQ hu (pv 3) (pv 0) (fun _ _=>rfl)) AB))) (AA (pv 1) (AA (pv 2) AB)))) AB))))) AB)))
   (AH (AR (BF (AA Ag (AA (pv 5) (AA (BI (fv:=["_law_doc_here"]) (fs:=[4]) rfl (.of (by rfl)) (Br (AM (En rfl:BJ _ _ (KN K)) rfl T.sorted Co (AA (DU (r:=X_ K) Mj (pv 2) Fm (Dn AD)) AB))) (fun C s0 H0 fp=>Fs (Jc (Fo hu (pv 0) (pv 1)))) (fun C s0 H0 fp=>(pv 0))) (AA Ct AB)))))))) AO)
   (AH (AR (BF (AA Ag (AA (AK MW IY rfl MV MT MU .nil AV (AA (pv 4) AB)) AB)))))))) AO)
   (AF (Af (AQ Bk (AS (r:=BD K) AY (pv 0) AD (fun _ _=>rfl)) Ag (AU _)) (AH (AR (BF (AA Ag (AA (BI (fv:=["_law_cells","_law_names_here"]) (fs:=[1,2]) rfl (.of (by rfl)) (Br (AS (r:=BD K) AY (pv 0) AD (fun _ _=>rfl))) (fun _ _ _ _=>BR) (fun C s0 H0 fp=>(AK GL U rfl GK GG GH .nil AV (AA (pv 0) (AA (pv 1) (AA (pv 2) AB)))))) (AA (AS (r:=BD K) AY (pv 0) AD (fun _ _=>rfl)) AB)))))) AO)
   (AF (AX (i:=5) nd rfl (Or.inr rfl) (BB (Cb rfl) rfl T.dict CM (AA (BI (fv:=["_law_cells","_law_names_here","_law_asks_here"]) (fs:=[1,2,0]) rfl (.of (by rfl)) (Wz rfl T.reversed Js (AA (AM (Cn rfl) rfl T.sorted Co (AA (AS (r:=BD K) AY (pv 0) AD (fun _ _=>rfl)) AB)) AB)) (fun _ _ _ _=>BR) (fun C s0 H0 fp=>(BF (AA (pv 0) (AA (AK GL U rfl GK GG GH .nil AV (AA (CQ hu (AS (r:=BD K) AY (pv 3) AD (fun _ _=>rfl)) (pv 0) (fun _ _=>rfl)) (AA (pv 1) (AA (pv 2) AB)))) AB))))) AB)))
   (AF (AX (i:=6) nd rfl (Or.inl rfl) (AS (r:=BD K) AY (pv 0) AD (fun _ _=>rfl)))
   (AF (Af (PW.pt (CD (DS (A_ (AS (r:=BD K) AY (pv 0) AD (fun _ _=>rfl)))) (CF (AQ Bk (AN Aq (AK LZ Iu rfl LY LW LX .nil AV (AA (pv 3) (AA AD AB))) AD) AD (AU _))))) (AH (Eh (i:=6) (fv:=["_law_told"]) (fs:=[5]) rfl (.of (by rfl)) nd rfl (Or.inl rfl) (Br (AM (En rfl:BJ _ _ (KN K)) rfl T.sorted Co (AA (pv 2) AB))) (fun C s0 H0 fp=>Fs (Jc (Fo hu (pv 0) (pv 1)))) (fun C s0 H0 fp=>(pv 0)))) AO)
   (AH (AR (BF (AA Ag (AA (pv 5) (AA (BB Ck rfl T.list Bv (AA (pv 6) AB)) (AA (AS (r:=BD K) AY (pv 0) AD (fun _ _=>rfl)) AB))))))))))))))),?_⟩
  have jk:H l≠none:=by rw[hl];exact fun z=>nomatch z
  refine aC ?_
  refine FU (t:=Gg _ _ _) (fun σ' H1=>∃(c:Int) (JJ:List Int),σ'=[some w,some (.ref l),some (.ref nm),some (.int c),none,none,none]/\Bt (some l) H H1/\H1 l=some (.lst (JJ.map V.int))/\JJ.length<=cs.length) (fun σ' H1 ⟨c,JJ,es,J,S,h_⟩=>?_) (fun key=>?_)
  rotate_left
  ·refine⟨_,rfl,Nat.zero_le _,fun pe MS=>⟨l,pe,_,rfl,rfl,Ah.of ((AG.new MS) _ _ hl),Ah.of AE,_,rfl,?_⟩⟩
   have se:=AG.new (o:=.lst []) MS
   generalize upd H pe (.lst [])=H1 at se⊢
   have S:=se _ _ hl
   cases cs with
   |nil=>exact As (key _ _ ⟨1005,[],rfl,.of se,S,Nat.le_refl _⟩)
   |cons c cs=>
    refine Bq ?_
    exact .inl ⟨_,rfl,.inl ⟨rfl,_,Ah.of S⟩,l,_,0,0,.int c,rfl,rfl,S,by decide,by decide,(Fn (by unfold QX;rw[if_pos (by decide),if_pos (by simp)];rfl)).1,rfl,key _ _ ⟨c,cs,rfl,(Bt.of se).put,AE,by simp⟩⟩
  subst es
  have Py:=hn.but J nl
  have md:=hw.up J.Du
  obtain⟨t0,w0,rest,rfl,Xo,kinds⟩:=md.ak
  have Nm:=Xo.up CG
  have Uk:∀{b:Bool} {P:Prop},True:=trivial
  rcases kinds with⟨rfl,rfl,rfl⟩|⟨d,u,rfl,rfl,rfl,Nn⟩|⟨xs,m,u,rfl,rfl,rfl,Nn⟩|⟨ks,xs,ls,m,u,z,rfl,rfl,rfl,Nn,hz⟩
  ·refine⟨_,rfl,t0,_,0,_,rfl,rfl,Nm,EC,rfl,_,rfl,Bl (by decide+kernel) ?_⟩
   refine⟨Bs,fun p hp=>?_⟩
   have sp:=AG.new (o:=.tup [V.str "any"]) hp
   exact q _ .any JJ _ (J.trans (.of sp)) (sp _ _ S) h_ (.tup (.inl (.inl (by rw[Al (J.Cq p hp)];exact AE))) (.cons (.str _) .nil)) .any
  ·refine⟨_,rfl,t0,_,0,_,rfl,rfl,Nm,EC,rfl,_,rfl,BK (by decide+kernel) ?_⟩
   refine⟨_,rfl,t0,_,0,_,rfl,rfl,Nm,EC,rfl,_,rfl,Bl (by decide+kernel) ?_⟩
   refine⟨_,rfl,t0,_,1,_,rfl,rfl,Nm,Eb,?_⟩
   simp only[Ak.Bu]at BO
   simp only[Ak.dp]at hd Ui
   simp only[Ak.wt]at za
   simp only[Ak.jw]at hj
   have zQ:=Nn.up CG
   have fin:av (fY (Gh (tC (V.str "just")) (Gh (Rp (Cc 20) [] E0 (Gh (Nv 4) QW)) QW))) {nx:=fun x H'=>Q V.BV H',rt:=Q} [some (.ref t0),some (.ref l),some (.ref nm),some (.int c),some u,none,none] H1:=by
    refine⟨_,rfl,u,d,rfl,zQ,Pt.Gz d BO (by lia),by lia,fun v H2 s2 v2=>⟨Az,fun p hp=>?_⟩⟩
    have sp:=AG.new (o:=.tup [V.str "just",v]) hp
    have p0:=J.Cq p (s2.free hp)
    exact q _ (.Ac d) JJ _ (J.trans (.of (s2.trans sp))) ((s2.trans sp) _ _ S) h_ (.tup (.inl (.inl (by rw[Al p0];exact AE))) (.cons (.str _) (.cons (v2.up (BQ (fun b h=>J.Cq b h) fun b e _ h=>sp _ _ h)) .nil))) (.Ac d)
   have leaf:∀T,Lo H1 u T->Qk T "list"=false->Qk T "dict"=false->True:=fun _ _ _ _=>trivial
   cases Nn with
   |bl b=>simp[Pt.doc]at BO
   |tup _ _=>simp[Pt.doc]at BO
   |int i=>
    refine⟨_,rfl,_,"list","int",rfl,rfl,.n (.int i),_,rfl,As ?_⟩
    exact⟨_,rfl,_,"dict","int",rfl,rfl,.n (.int i),_,rfl,As fin⟩
   |str i=>
    refine⟨_,rfl,_,"list","str",rfl,rfl,.n (.str i),_,rfl,As ?_⟩
    exact⟨_,rfl,_,"dict","str",rfl,rfl,.n (.str i),_,rfl,As fin⟩
   |@lst a vs ds Pz ra=>
    have la:=ra.length
    have X:Rd H1 a (.lst vs):=Pz.up (CG _)
    have al:a≠l:=fun z=>by
     subst z
     rcases Pz with h|⟨o,h⟩<;>(unfold Du at h;rw[if_pos rfl]at h;cases h)
    have MX:∀{B:Hp},Bt (some l) H1 B->Rd B a (.lst vs):=fun L=>X.up fun o e=>L.keep a o (fun z=>al (ACf z).symm) e
    refine⟨_,rfl,_,"list","list",rfl,rfl,.n (.lst X),_,rfl,Bq ?_⟩
    refine⟨_,rfl,c,7,rfl,by decide,fun r7 _ _=>⟨_,_,rfl,rfl,(by show(0:Int)<_;decide),_,_,rfl,rfl,_,rfl,?_⟩⟩
    refine By (fun _=>?_) (fun _=>⟨_,rfl,_,"dict","list",rfl,rfl,.n (.lst X),_,rfl,As fin⟩)
    simp only[Pt.doc]at BO
    simp only[Pt.deep]at hd Ui
    simp only[Pt.size]at za
    simp only[Pt.wide]at hj
    have uO:=Pt.Cm ds
    refine⟨_,rfl,a,rfl,⟨_,.inl X⟩,?_⟩
    refine Cr (some l) ds.length (fun i=>vs.getD i .BV) (fun i Y B=>∃(g:List Int) (bs:List Ak),Y=Ak.D' bs/\B l=some (.lst (g.map V.int))/\g.length<=JJ.length/\Ak.CA ((ds.map Ak.Ac).take i) bs)
     (by lia) (fun D hD=>⟨JJ,[],rfl,by rw[AJ (fun z=>by rw[<-z,S]at hD;cases hD)];exact S,Nat.le_refl _,.nil⟩) (fun i Y B D ws L hD ⟨g,bs,h0,h1,h2⟩=>⟨g,bs,h0,by rw[AJ (fun z=>by rw[<-z,S]at hD;cases hD)];exact h1,h2⟩)
     (fun l' z=>by cases z;rw[S];exact fun z=>nomatch z) (fun i Y B O s iv=>⟨_,_,.inl (MX s),ACd (by lia)⟩) (fun i Y B v H' O s iv y=>?_) (fun Y B s iv=>⟨_,.inl (MX s),by lia⟩) (fun i Y B R O L ⟨g,bs,e1,e2,e3,e4⟩ lu k=>?_) (fun D B ws Y hD L d2 lu vl ⟨g,bs,e1,e2,e3,e4⟩=>?_)
    ·obtain⟨e,y⟩:=y
     refine⟨?_,e⟩
     have:=y _ (.inl (MX s))
     rw[List.getD_eq_getElem?_getD,this]
     rfl
    ·obtain⟨x,hx⟩:∃x,vs[i]?=some x:=⟨_,ACd (by lia)⟩
     obtain⟨px,g1,vx⟩:=ra.get hx
     have JK:(ds.map Ak.Ac)[i]?=some (.Ac px):=by rw[List.getElem?_map,g1];rfl
     have m1:=ACg g1
     have d1:=Pt.Ao m1
     have z1:=Pt.Bh m1
     have j1:=Pt.CC m1
     have ev:vs.getD i .BV=x:=by rw[List.getD_eq_getElem?_getD,hx];rfl
     rw[ev]
     refine⟨_,rfl,Az,fun p hp=>?_⟩
     have sp:=AG.new (o:=.tup [V.str "just",x]) hp
     have pl:p≠l:=fun z=>by rw[z,e2]at hp;cases hp
     have ep:upd B p (.tup [V.str "just",x]) p=some (.tup [V.str "just",x]):=AE
     generalize upd B p (.tup [V.str "just",x])=nM at sp ep⊢
     have dD:Bt (some l) B nM:=.of sp
     exact⟨_,rfl,_,rfl,.ref p,.Ac px,l,nm,g,ys,rfl,.tup (.inl (.inl (by rw[EA pl];exact ep))) (.cons (.str _) (.cons (vx.up (L.trans dD).Du) .nil)),Pt.Ap BO _ m1,Nat.le_trans j1 hj,(by show px.deep+22<=n;lia),(by show px.deep<=20;lia),(by show px.size<=900;lia),sp _ _ e2,by lia,nl,Py.but (L.trans dD) nl,fun v b QI H4 QJ La eI v4 dE=>k v b.pt H4 (dD.trans QJ) (v4.up (BQ (fun b h=>sp.free h) fun b e _ h=>h)) ⟨QI,bs++[b],by rw[e1,Ak.JY],La,by lia,e4.step JK dE⟩⟩
    ·rw[<-List.length_map (f:=Ak.Ac),List.take_length]at e4
     subst e1
     refine⟨Ad (by simp),fun p hp=>?_⟩
     have sp:=AG.new (o:=.tup [V.str "row",V.ref D,V.bl false]) hp
     have b3:=(J.trans L).trans (.of sp)
     have up:AG (nw H1 B) (nw H (upd B p (.tup [V.str "row",V.ref D,V.bl false]))):=BQ (fun b h=>J.Cq b h) fun b e _ h=>sp _ _ h
     exact q _ (.row bs false) g _ b3 (sp _ _ e2) (by lia) (.tup (.inl (.inl (by rw[Al ((J.trans L).Cq p hp)];exact AE))) (.cons (.str _) (.cons (.lst (.inl (by rw[Al (J.Cq D hD)];exact sp _ _ d2)) (vl.up up)) (.cons (.bl false) .nil)))) (.Yu e4)
   |@BM a kvs ks ds Pz JW ra=>
    have X:Rd H1 a (.dK kvs):=Pz.up (CG _)
    have al:a≠l:=fun z=>by
     subst z
     rcases Pz with h|⟨o,h⟩<;>(unfold Du at h;rw[if_pos rfl]at h;cases h)
    have MX:∀{B:Hp},Bt (some l) H1 B->Rd B a (.dK kvs):=fun L=>X.up fun o e=>L.keep a o (fun z=>al (ACf z).symm) e
    refine⟨_,rfl,_,"list","dict",rfl,rfl,.n (.dK X),_,rfl,As ?_⟩
    refine⟨_,rfl,_,"dict","dict",rfl,rfl,.n (.dK X),_,rfl,Bq ?_⟩
    refine⟨_,rfl,c,7,rfl,by decide,fun r7 _ _=>⟨_,_,rfl,rfl,(by show(0:Int)<_;decide),_,_,rfl,rfl,_,rfl,?_⟩⟩
    refine By (fun _=>?_) (fun _=>fin)
    simp only[Pt.doc]at BO
    simp only[Pt.deep]at hd Ui
    simp only[Pt.size]at za
    simp only[Pt.wide]at hj
    obtain⟨o1,o2,o3,o4,o7⟩:=BO
    have uO:=Pt.Cm ds
    have kl:kvs.length=ks.length:=by have:=congrArg List.length JW;simpa using this
    refine⟨_,rfl,a,kvs,ks,rfl,X,JW,by lia,fun ps ss aW ZR XZ Xp iV st=>⟨ps,_,rfl,Ah.of Xp,?_⟩⟩
    have bb:Bt (some l) H1 aW:=.of XZ
    have Ht:=XZ _ _ S
    have uc:=iV.length_eq
    obtain⟨G,bU⟩:∃G,G=ss.reverse:=⟨_,rfl⟩
    have pm:G.Perm ks:=by rw[bU];exact(List.reverse_perm ss).trans iV
    have zR:=pm.length_eq
    obtain⟨as,Ue⟩:=IK o1 (ss:=G) fun k hk=>pm.mem_iff.mp hk
    have eN:=Bx o1 o2 pm Ue
    have cU:as.length=G.length:=by have:=congrArg List.length Ue;simpa using this.symm
    have nN:G.Nodup:=pm.nodup_iff.mpr o2
    have iG:l≠ps:=fun z=>by rw[<-z,S]at ZR;cases ZR
    have Xa:∀{B:Hp},Bt (some l) aW B->B ps=some (.lst (ss.map V.str)):=fun L=>L.keep _ _ (fun z=>iG (ACf z)) Xp
    have ri:∀i,i<G.length->(ss.map V.str)[(ss.map V.str).length-1-i]?=some (.str (G.getD i "")):=fun i O=>by rw[bU];exact W_ (by lia)
    refine Fx (some l) G.length (fun i=>.str (G.getD i "")) G (fun i Y B=>∃(g:List Int) (bs:List Ak),Y=Ak.D' bs/\B l=some (.lst (g.map V.int))/\g.length<=JJ.length/\Ak.CA ((as.map Ak.Ac).take i) bs)
     (by lia) (fun D hD=>⟨JJ,[],rfl,by rw[AJ (fun z=>by rw[<-z,Ht]at hD;cases hD)];exact Ht,Nat.le_refl _,.nil⟩) (fun i Y B D e L hD ⟨g,bs,h0,h1,h2⟩=>⟨g,bs,h0,by rw[AJ (fun z=>by rw[<-z,Ht]at hD;cases hD)];exact h1,h2⟩)
     (fun l' z=>by cases z;rw[Ht];exact fun z=>nomatch z) (fun i Y B O s iv=>⟨_,_,Ah.of (Xa s),rfl,by rw[List.length_map];lia,ri i O⟩) (fun i Y B v H' O s iv y=>?_) (fun Y B s iv=>⟨⟨_,Ah.of (Xa s)⟩,by rw[List.length_map];lia⟩) (fun i Y B R O L ⟨g,bs,e1,e2,e3,e4⟩ lu k=>?_) (fun D B ts ws Y hD L d2 lt lu tt vl ⟨g,bs,e1,e2,e3,e4⟩=>?_)
    ·obtain⟨e,y⟩:=y
     have:=y _ (Ah.of (Xa s))
     rw[ri i O]at this
     exact⟨(ACf this).symm,e⟩
    ·have hk:G[i]?=some (G.getD i ""):=by rw[List.getD_eq_getElem?_getD,ACd O];rfl
     obtain⟨px,nO⟩:∃px,as[i]?=some px:=⟨_,ACd (by lia)⟩
     have aX:lk ks ds (G.getD i "")=some px:=by
      have:=congrArg (fun z=>z[i]?) Ue
      simp only[List.getElem?_map,hk,nO]at this
      exact ACf this
     have JK:(as.map Ak.Ac)[i]?=some (.Ac px):=by rw[List.getElem?_map,nO];rfl
     rcases Val.C' JW ra (G.getD i "")with⟨x,tx,k1,k2,vx⟩|⟨_,k2⟩
     ·have iH:tx=px:=ACf (k2.symm.trans aX)
      subst iH
      have m1:=eN.mem_iff.mp (ACg nO)
      have d1:=Pt.Ao m1
      have z1:=Pt.Bh m1
      have j1:=Pt.CC m1
      refine⟨_,rfl,_,rfl,_,rfl,a,x,rfl,.inl ⟨kvs,Sum.inr (G.getD i ""),MX (bb.trans L),rfl,k1.symm⟩,Az,fun p hp=>?_⟩
      have sp:=AG.new (o:=.tup [V.str "just",x]) hp
      have pl:p≠l:=fun z=>by rw[z,e2]at hp;cases hp
      have ep:upd B p (.tup [V.str "just",x]) p=some (.tup [V.str "just",x]):=AE
      generalize upd B p (.tup [V.str "just",x])=nM at sp ep⊢
      have dD:Bt (some l) B nM:=.of sp
      exact⟨_,rfl,_,rfl,.ref p,.Ac tx,l,nm,g,ys,rfl,.tup (.inl (.inl (by rw[EA pl];exact ep))) (.cons (.str _) (.cons (vx.up ((bb.trans L).trans dD).Du) .nil)),Pt.Ap o7 _ m1,(by show tx.wide<=59;lia),(by show tx.deep+22<=n;lia),(by show tx.deep<=20;lia),(by show tx.size<=900;lia),sp _ _ e2,by lia,nl,Py.but ((bb.trans L).trans dD) nl,fun v b QI H4 QJ La eI v4 dE=>⟨Az,fun pt iI=>k v b.pt H4 pt (dD.trans QJ) (v4.up (BQ (fun b h=>sp.free h) fun b e _ h=>h)) ⟨QI,bs++[b],by rw[e1,Ak.JY],La,by lia,e4.step JK dE⟩ iI⟩⟩
     ·exact absurd (k2.symm.trans aX) (fun z=>nomatch z)
    ·rw[<-cU,<-List.length_map (f:=Ak.Ac),List.take_length]at e4
     subst e1
     have lw:=vl.length
     have el:G.length=ws.length:=by lia
     refine⟨D,ts,Bz G ws,rfl,Ah.of d2,by rw[DA el];lia,fun j k v e=>?_,by rw[DA el];lia,fun p5 K_=>?_⟩
     ·obtain⟨x,h1,h2,h3⟩:=JT e
      obtain⟨t,ht⟩:∃t,ts[j]?=some t:=⟨_,ACd (by have:=(ACe h1).1;lia)⟩
      obtain⟨g2,g3⟩:=tt j t v ht h2
      refine⟨t,ht,?_⟩
      rw[g2,h3,List.getD_eq_getElem?_getD,h1]
      rfl
     rw[ES el nN]
     have s4:=AG.new (o:=.dK (Bz G ws)) K_
     have f5:upd B p5 (.dK (Bz G ws)) p5=some (.dK (Bz G ws)):=AE
     have b13:=bb.trans L
     have cy:H p5=none:=J.Cq p5 (b13.Cq p5 K_)
     generalize upd B p5 (.dK (Bz G ws))=H4 at s4 f5⊢
     have b14:Bt (some l) H1 H4:=b13.trans (.of s4)
     have nP:=(Py.but b14 nl).at_
     refine⟨_,rfl,_,rfl,2,rfl,nm,_,rfl,Ah.of nP,fun jz nQ=>?_⟩
     rw[W' ys (by rw[hn.len];decide)]
     have s5:=AG.new (o:=.lst ((ys.take 2).map V.str)) nQ
     have vD:upd H4 jz (.lst ((ys.take 2).map V.str)) jz=some (.lst ((ys.take 2).map V.str)):=AE
     generalize upd H4 jz (.lst ((ys.take 2).map V.str))=H5 at s5 vD⊢
     refine⟨jz,ys.take 2,rfl,Ah.of vD,by rw[List.length_take];lia,fun p6 I H6 uy s6 f6 iW zS=>⟨p6,rfl,⟨_,Ah.of f6⟩,?_⟩⟩
     have l6:I.length<=2:=by rw[iW.length_eq,List.length_take];lia
     have s46:=s5.trans s6
     have aY:=MX (b14.trans (.of s46))
     have li:∀i,i<I.length->(I.map V.str)[i]?=some (.str (I.getD i "")):=fun i O=>by
      rw[List.getElem?_map,ACd O,List.getD_eq_getElem?_getD,ACd O]
      rfl
     have Ud:∀{Z:Addr} {N:List V},H6 Z=none->upd H6 Z (.lst N) p6=some (.lst (I.map V.str)):=fun h=>by rw[AJ (Ab f6 h)];exact f6
     refine Cv (n:=I.length) (fun i=>.str (I.getD i "")) (fun i=>.str (I.getD i "")) (fun i=> !decide (I.getD i ""∈ks)) (Ad (by lia)) (fun i Z N O M=>⟨_,_,Ah.of (Ud M),li i O⟩) (fun i Z N v H' O M y=>?_)
      (fun Z N M=>⟨_,Ah.of (Ud M),by rw[List.length_map];exact Nat.le_refl _⟩) (fun i Z N R O M r=>?_) (fun i Z N R O M _ r=>⟨_,rfl,r⟩) (fun Z M=>?_)
     ·obtain⟨e,y⟩:=y
      have:=y _ (Ah.of (Ud M))
      rw[li i O]at this
      exact⟨(ACf this).symm,e⟩
     ·have nJ:Rd (upd H6 Z (.lst N)) a (.dK kvs):=aY.up fun o e=>by rw[AJ (Ab e M)];exact e
      refine⟨_,rfl,_,rfl,a,_,rfl,.inl ⟨kvs,Sum.inr (I.getD i ""),nJ,rfl,rfl⟩,_,rfl,?_⟩
      rw[Ih JW]
      exact r
     ·rw[EU I fun n=> !decide (n∈ks)]
      obtain⟨N,nR⟩:∃N,N=I.filter fun n=> !decide (n∈ks):=⟨_,rfl⟩
      rw[<-nR]
      have lz:N.length<=I.length:=by rw[nR];exact List.length_filter_le _ _
      have zT:=J.Cq Z (b14.Cq Z (s46.free M))
      have s7:=s46.trans (AG.new (o:=.lst (N.map V.str)) M)
      have f7:upd H6 Z (.lst (N.map V.str)) Z=some (.lst (N.map V.str)):=AE
      generalize upd H6 Z (.lst (N.map V.str))=H7 at s7 f7⊢
      refine⟨Ad (by simp),fun p8 dF=>?_⟩
      have s8:=s7.trans (AG.new (o:=.tup [V.str "table",V.ref p5,V.ref Z,V.bl false]) dF)
      have f8:upd H7 p8 (.tup [V.str "table",V.ref p5,V.ref Z,V.bl false]) Z=some (.lst (N.map V.str)):=(AG.new dF) _ _ f7
      have t8:upd H7 p8 (.tup [V.str "table",V.ref p5,V.ref Z,V.bl false]) p8=some (.tup [V.str "table",V.ref p5,V.ref Z,V.bl false]):=AE
      have p80:=J.Cq p8 (b14.Cq p8 (s7.free dF))
      generalize upd H7 p8 (.tup [V.str "table",V.ref p5,V.ref Z,V.bl false])=H8 at s8 f8 t8⊢
      have cx:Aa (nw H H8) ws (Ak.D' bs):=vl.up (BQ (fun b h=>J.Cq b (bb.Cq b h)) fun b e _ h=>s8 _ _ (s4 _ _ h))
      exact q _ (.tab G bs N false) g H8 ((J.trans b14).trans (.of s8)) (s8 _ _ (s4 _ _ e2)) (by lia)
       (.tup (.inl (.inl (by rw[Al p80];exact t8))) (.cons (.str _) (.cons (.BM (.inl (by rw[Al cy];exact s8 _ _ f5)) (Be el) (by rw[CY el];exact cx)) (.cons (.lst (.inl (by rw[Al zT];exact f8)) (HX N)) (.cons (.bl false) .nil)))))
       (.Yv pm Ue e4 (by lia) (by lia) fun z hz=>by
        rw[nR]at hz
        have:=(List.mem_filter.mp hz).2
        simp at this
        exact fun w=>this (pm.mem_iff.mp w))
  ·refine⟨_,rfl,t0,_,0,_,rfl,rfl,Nm,EC,rfl,_,rfl,BK (by decide+kernel) ?_⟩
   refine⟨_,rfl,t0,_,0,_,rfl,rfl,Nm,EC,rfl,_,rfl,BK (by decide+kernel) ?_⟩
   refine⟨_,rfl,t0,_,0,_,rfl,rfl,Nm,EC,rfl,_,rfl,Bl (by decide+kernel) ?_⟩
   simp only[Ak.Bu]at BO
   simp only[Ak.dp]at hd Ui
   simp only[Ak.wt]at za
   simp only[Ak.jw]at hj
   have mi:=Ak.Cm xs
   have lxw:=Ak.EW xs
   cases Nn with
   |@lst a vs _ Pz ra=>
    have la:=ra.length
    rw[Ak.BG,List.length_map]at la
    have X:Rd H1 a (.lst vs):=Pz.up (CG _)
    have al:a≠l:=fun z=>by
     subst z
     rcases Pz with h|⟨o,h⟩<;>(unfold Du at h;rw[if_pos rfl]at h;cases h)
    have MX:∀{B:Hp},Bt (some l) H1 B->Rd B a (.lst vs):=fun L=>X.up fun o e=>L.keep a o (fun z=>al (ACf z).symm) e
    refine⟨_,rfl,t0,_,1,_,rfl,rfl,Nm,Eb,a,rfl,⟨_,.inl X⟩,?_⟩
    refine Cr (some l) xs.length (fun i=>vs.getD i .BV) (fun i Y B=>∃(g:List Int) (bs:List Ak),Y=Ak.D' bs/\B l=some (.lst (g.map V.int))/\g.length<=JJ.length/\Ak.CA (xs.take i) bs)
     (by lia) (fun D hD=>⟨JJ,[],rfl,by rw[AJ (fun z=>by rw[<-z,S]at hD;cases hD)];exact S,Nat.le_refl _,.nil⟩) (fun i Y B D ws L hD ⟨g,bs,h0,h1,h2⟩=>⟨g,bs,h0,by rw[AJ (fun z=>by rw[<-z,S]at hD;cases hD)];exact h1,h2⟩)
     (fun l' z=>by cases z;rw[S];exact fun z=>nomatch z) (fun i Y B O s iv=>⟨_,_,.inl (MX s),ACd (by lia)⟩) (fun i Y B v H' O s iv y=>?_) (fun Y B s iv=>⟨_,.inl (MX s),by lia⟩) (fun i Y B R O L ⟨g,bs,e1,e2,e3,e4⟩ lu k=>?_) (fun D B ws Y hD L d2 lu vl ⟨g,bs,e1,e2,e3,e4⟩=>?_)
    ·obtain⟨e,y⟩:=y
     refine⟨?_,e⟩
     have:=y _ (.inl (MX s))
     rw[List.getD_eq_getElem?_getD,this]
     rfl
    ·obtain⟨x,hx⟩:∃x,vs[i]?=some x:=⟨_,ACd (by lia)⟩
     obtain⟨px,g1,vx⟩:=ra.get hx
     obtain⟨ax,JK⟩:∃ax,xs[i]?=some ax:=⟨_,ACd O⟩
     rw[Ak.BG,List.getElem?_map,JK]at g1
     cases g1
     have m1:=ACg JK
     have d1:=Ak.HV m1
     have z1:=Ak.HU m1
     have j1:=Ak.NW m1
     have ev:vs.getD i .BV=x:=by rw[List.getD_eq_getElem?_getD,hx];rfl
     rw[ev]
     exact⟨_,rfl,_,rfl,_,rfl,x,ax,l,nm,g,ys,rfl,vx.up L.Du,Ak.Au BO _ m1,by lia,by lia,by lia,by lia,e2,by lia,nl,Py.but L nl,fun v b QI H4 QJ La eI v4 dE=>k v b.pt H4 QJ v4 ⟨QI,bs++[b],by rw[e1,Ak.JY],La,by lia,e4.step JK dE⟩⟩
    ·rw[List.take_length]at e4
     subst e1
     have t3:=Xo.jZ L
     refine⟨_,rfl,t0,_,2,_,rfl,rfl,t3,at2,Ad (by simp),fun p hp=>?_⟩
     have sp:=AG.new (o:=.tup [V.str "row",V.ref D,V.bl m]) hp
     have b3:=(J.trans L).trans (.of sp)
     have up:AG (nw H1 B) (nw H (upd B p (.tup [V.str "row",V.ref D,V.bl m]))):=BQ (fun b h=>J.Cq b h) fun b e _ h=>sp _ _ h
     exact q _ (.row bs m) g _ b3 (sp _ _ e2) (by lia) (.tup (.inl (.inl (by rw[Al ((J.trans L).Cq p hp)];exact AE))) (.cons (.str _) (.cons (.lst (.inl (by rw[Al (J.Cq D hD)];exact sp _ _ d2)) (vl.up up)) (.cons (.bl m) .nil)))) (.row e4)
  ·refine⟨_,rfl,t0,_,0,_,rfl,rfl,Nm,EC,rfl,_,rfl,BK (by decide+kernel) ?_⟩
   refine⟨_,rfl,t0,_,0,_,rfl,rfl,Nm,EC,rfl,_,rfl,BK (by decide+kernel) ?_⟩
   refine⟨_,rfl,t0,_,0,_,rfl,rfl,Nm,EC,rfl,_,rfl,BK (by decide+kernel) ?_⟩
   simp only[Ak.Bu]at BO
   simp only[Ak.dp]at hd Ui
   simp only[Ak.wt]at za
   simp only[Ak.jw]at hj
   obtain⟨o1,o2,o3,o4,o5,o6,o7⟩:=BO
   cases Nn with
   |@BM a kvs _ _ Pz JW ra=>
    cases hz with
    |@lst lz iE _ iF rl=>
     have nT:=Et rl
     subst nT
     have kl:kvs.length=ks.length:=by have:=congrArg List.length JW;simpa using this
     have X:Rd H1 a (.dK kvs):=Pz.up (CG _)
     have al:a≠l:=fun z=>by
      subst z
      rcases Pz with h|⟨o,h⟩<;>(unfold Du at h;rw[if_pos rfl]at h;cases h)
     have MX:∀{B:Hp},Bt (some l) H1 B->Rd B a (.dK kvs):=fun L=>X.up fun o e=>L.keep a o (fun z=>al (ACf z).symm) e
     have jq:Rd H1 lz (.lst (ls.map V.str)):=iF.up (CG _)
     have zl:lz≠l:=fun z=>by
      subst z
      rcases iF with h|⟨o,h⟩<;>(unfold Du at h;rw[if_pos rfl]at h;cases h)
     have ub:∀{B:Hp},Bt (some l) H1 B->Rd B lz (.lst (ls.map V.str)):=fun L=>jq.up fun o e=>L.keep lz o (fun z=>zl (ACf z).symm) e
     have aV:∀{B:Hp},Bt (some l) H1 B->Bj K B t0 [.str "table",.ref a,.ref lz,.bl m]:=fun L=>Xo.jZ L
     refine⟨_,rfl,t0,_,1,_,rfl,rfl,Nm,Eb,a,kvs,ks,rfl,X,JW,by lia,fun ps ss aW ZR XZ Xp iV st=>⟨ps,_,rfl,Ah.of Xp,?_⟩⟩
     have bb:Bt (some l) H1 aW:=.of XZ
     have Ht:=XZ _ _ S
     have uc:=iV.length_eq
     obtain⟨G,bU⟩:∃G,G=ss.reverse:=⟨_,rfl⟩
     have pm:G.Perm ks:=by rw[bU];exact(List.reverse_perm ss).trans iV
     have zR:=pm.length_eq
     obtain⟨as,Ue⟩:=IK o1 (ss:=G) fun k hk=>pm.mem_iff.mp hk
     have eN:=Bx o1 o2 pm Ue
     have cU:as.length=G.length:=by have:=congrArg List.length Ue;simpa using this.symm
     have nN:G.Nodup:=pm.nodup_iff.mpr o2
     have iG:l≠ps:=fun z=>by rw[<-z,S]at ZR;cases ZR
     have Xa:∀{B:Hp},Bt (some l) aW B->B ps=some (.lst (ss.map V.str)):=fun L=>L.keep _ _ (fun z=>iG (ACf z)) Xp
     have ri:∀i,i<G.length->(ss.map V.str)[(ss.map V.str).length-1-i]?=some (.str (G.getD i "")):=fun i O=>by rw[bU];exact W_ (by lia)
     refine Fx (some l) G.length (fun i=>.str (G.getD i "")) G (fun i Y B=>∃(g:List Int) (bs:List Ak),Y=Ak.D' bs/\B l=some (.lst (g.map V.int))/\g.length<=JJ.length/\Ak.CA (as.take i) bs)
      (by lia) (fun D hD=>⟨JJ,[],rfl,by rw[AJ (fun z=>by rw[<-z,Ht]at hD;cases hD)];exact Ht,Nat.le_refl _,.nil⟩) (fun i Y B D e L hD ⟨g,bs,h0,h1,h2⟩=>⟨g,bs,h0,by rw[AJ (fun z=>by rw[<-z,Ht]at hD;cases hD)];exact h1,h2⟩)
      (fun l' z=>by cases z;rw[Ht];exact fun z=>nomatch z) (fun i Y B O s iv=>⟨_,_,Ah.of (Xa s),rfl,by rw[List.length_map];lia,ri i O⟩) (fun i Y B v H' O s iv y=>?_) (fun Y B s iv=>⟨⟨_,Ah.of (Xa s)⟩,by rw[List.length_map];lia⟩) (fun i Y B R O L ⟨g,bs,e1,e2,e3,e4⟩ lu k=>?_) (fun D B ts ws Y hD L d2 lt lu tt vl ⟨g,bs,e1,e2,e3,e4⟩=>?_)
     ·obtain⟨e,y⟩:=y
      have:=y _ (Ah.of (Xa s))
      rw[ri i O]at this
      exact⟨(ACf this).symm,e⟩
     ·have hk:G[i]?=some (G.getD i ""):=by rw[List.getD_eq_getElem?_getD,ACd O];rfl
      obtain⟨ax,JK⟩:∃ax,as[i]?=some ax:=⟨_,ACd (by lia)⟩
      have mn:lk ks xs (G.getD i "")=some ax:=by
       have:=congrArg (fun z=>z[i]?) Ue
       simp only[List.getElem?_map,hk,JK]at this
       exact ACf this
      have aX:lk ks (Ak.D' xs) (G.getD i "")=some ax.pt:=by rw[Ak.BG,FX,mn];rfl
      rcases Val.C' JW ra (G.getD i "")with⟨x,tx,k1,k2,vx⟩|⟨_,k2⟩
      ·have iH:tx=ax.pt:=ACf (k2.symm.trans aX)
       subst iH
       have m1:=eN.mem_iff.mp (ACg JK)
       have d1:=Ak.HV m1
       have z1:=Ak.HU m1
       have j1:=Ak.NW m1
       exact⟨_,rfl,_,rfl,t0,_,1,_,rfl,rfl,aV (bb.trans L),Eb,_,rfl,a,x,rfl,.inl ⟨kvs,Sum.inr (G.getD i ""),MX (bb.trans L),rfl,k1.symm⟩,_,rfl,_,rfl,x,ax,l,nm,g,ys,rfl,vx.up (bb.trans L).Du,Ak.Au o7 _ m1,by lia,by lia,by lia,by lia,e2,by lia,nl,Py.but (bb.trans L) nl,fun v b QI H4 QJ La eI v4 dE=>⟨Az,fun pt iI=>k v b.pt H4 pt QJ v4 ⟨QI,bs++[b],by rw[e1,Ak.JY],La,by lia,e4.step JK dE⟩ iI⟩⟩
      ·exact absurd (k2.symm.trans aX) (fun z=>nomatch z)
     ·rw[<-cU,List.take_length]at e4
      subst e1
      have lw:=vl.length
      have el:G.length=ws.length:=by lia
      refine⟨D,ts,Bz G ws,rfl,Ah.of d2,by rw[DA el];lia,fun j k v e=>?_,by rw[DA el];lia,fun p5 K_=>?_⟩
      ·obtain⟨x,h1,h2,h3⟩:=JT e
       obtain⟨t,ht⟩:∃t,ts[j]?=some t:=⟨_,ACd (by have:=(ACe h1).1;lia)⟩
       obtain⟨g2,g3⟩:=tt j t v ht h2
       refine⟨t,ht,?_⟩
       rw[g2,h3,List.getD_eq_getElem?_getD,h1]
       rfl
      rw[ES el nN]
      have s4:=AG.new (o:=.dK (Bz G ws)) K_
      have f5:upd B p5 (.dK (Bz G ws)) p5=some (.dK (Bz G ws)):=AE
      have b13:=bb.trans L
      have cy:H p5=none:=J.Cq p5 (b13.Cq p5 K_)
      generalize upd B p5 (.dK (Bz G ws))=H4 at s4 f5⊢
      have b14:Bt (some l) H1 H4:=b13.trans (.of s4)
      have nP:=(Py.but b14 nl).at_
      refine⟨_,rfl,t0,_,2,_,rfl,rfl,aV b14,at2,?_⟩
      dsimp only[Dm]
      refine FU (t:=Gg _ _ _) (fun σ' H5=>∃(zl:Addr) (N:List Str),σ'=[some (.ref t0),some (.ref l),some (.ref nm),some (.int c),none,some (.ref p5),some (.ref zl)]/\AG H4 H5/\Rd H5 zl (.lst (N.map V.str))/\N.length<=100/\(∀z∈N,z∉G)/\(m=true->N=ls)) (fun σ' H5 ⟨zl,N,es,s5,zU,zV,zW,zX⟩=>?_) (fun key=>?_)
      rotate_left
      ·have same:=key _ H4 ⟨lz,ls,rfl,AG.refl _,ub b14,o5,fun z hz w=>o6 z hz (pm.mem_iff.mp w),fun _=>rfl⟩
       refine⟨_,rfl,t0,_,3,_,rfl,rfl,aV b14,Av (j:=3) rfl,_,rfl,?_⟩
       cases m with
       |true=>exact As same
       |false=>
        refine Bq ⟨_,rfl,c,8,rfl,by decide,fun r8 _ _=>⟨_,_,rfl,rfl,(by show(0:Int)<_;decide),rfl,_,rfl,?_⟩⟩
        refine By (fun _=>?_) (fun _=>same)
        refine⟨_,rfl,nm,ys,rfl,Ah.of nP,by rw[hn.len];decide,fun p6 I H6 uy s6 f6 iW zS=>⟨p6,rfl,⟨_,Ah.of f6⟩,?_⟩⟩
        have l6:I.length=4:=by rw[iW.length_eq,hn.len]
        have f56:=s6 _ _ f5
        have li:∀i,i<I.length->(I.map V.str)[i]?=some (.str (I.getD i "")):=fun i O=>by
         rw[List.getElem?_map,ACd O,List.getD_eq_getElem?_getD,ACd O]
         rfl
        have Ud:∀{Z:Addr} {N:List V},H6 Z=none->upd H6 Z (.lst N) p6=some (.lst (I.map V.str)):=fun h=>by rw[AJ (Ab f6 h)];exact f6
        refine Cv (n:=I.length) (fun i=>.str (I.getD i "")) (fun i=>.str (I.getD i "")) (fun i=> !decide (I.getD i ""∈G)) (Ad (by lia)) (fun i Z N O M=>⟨_,_,Ah.of (Ud M),li i O⟩) (fun i Z N v H' O M y=>?_)
         (fun Z N M=>⟨_,Ah.of (Ud M),by rw[List.length_map];exact Nat.le_refl _⟩) (fun i Z N R O M r=>?_) (fun i Z N R O M _ r=>⟨_,rfl,r⟩) (fun Z M=>?_)
        ·obtain⟨e,y⟩:=y
         have:=y _ (Ah.of (Ud M))
         rw[li i O]at this
         exact⟨(ACf this).symm,e⟩
        ·have f57:upd H6 Z (.lst N) p5=some (.dK (Bz G ws)):=by rw[AJ (Ab f56 M)];exact f56
         refine⟨_,rfl,_,rfl,p5,_,rfl,.inl ⟨Bz G ws,Sum.inr (I.getD i ""),.inl f57,rfl,rfl⟩,_,rfl,?_⟩
         rw[Ih (Be el)]
         exact r
        ·rw[EU I fun n=> !decide (n∈G)]
         refine key _ _ ⟨Z,I.filter fun n=> !decide (n∈G),rfl,s6.trans (AG.new M),.inl AE,?_,fun z hz=>?_,fun z=>nomatch z⟩
         ·have:=List.length_filter_le (fun n=> !decide (n∈G)) I
          lia
         ·have:=(List.mem_filter.mp hz).2
          simp at this
          exact this
      ·subst es
       refine⟨_,rfl,_,rfl,zl,_,rfl,.inl (.inl zU),fun p7 hX=>?_⟩
       have s7:=s5.trans (AG.new (o:=.lst (N.map V.str)) hX)
       have f7:upd H5 p7 (.lst (N.map V.str)) p7=some (.lst (N.map V.str)):=AE
       have p70:=J.Cq p7 (b14.Cq p7 (s5.free hX))
       generalize upd H5 p7 (.lst (N.map V.str))=H7 at s7 f7⊢
       refine⟨_,rfl,t0,_,3,_,rfl,rfl,(aV b14).up s7,Av (j:=3) rfl,Ad (by simp),fun p8 dF=>?_⟩
       have s8:=s7.trans (AG.new (o:=.tup [V.str "table",V.ref p5,V.ref p7,V.bl m]) dF)
       have f8:upd H7 p8 (.tup [V.str "table",V.ref p5,V.ref p7,V.bl m]) p7=some (.lst (N.map V.str)):=(AG.new dF) _ _ f7
       have t8:upd H7 p8 (.tup [V.str "table",V.ref p5,V.ref p7,V.bl m]) p8=some (.tup [V.str "table",V.ref p5,V.ref p7,V.bl m]):=AE
       have p80:=J.Cq p8 (b14.Cq p8 (s7.free dF))
       generalize upd H7 p8 (.tup [V.str "table",V.ref p5,V.ref p7,V.bl m])=H8 at s8 f8 t8⊢
       have cx:Aa (nw H H8) ws (Ak.D' bs):=vl.up (BQ (fun b h=>J.Cq b (bb.Cq b h)) fun b e _ h=>s8 _ _ (s4 _ _ h))
       exact q _ (.tab G bs N m) g H8 ((J.trans b14).trans (.of s8)) (s8 _ _ (s4 _ _ e2)) (by lia)
        (.tup (.inl (.inl (by rw[Al p80];exact t8))) (.cons (.str _) (.cons (.BM (.inl (by rw[Al cy];exact s8 _ _ f5)) (Be el) (by rw[CY el];exact cx)) (.cons (.lst (.inl (by rw[Al p70];exact f8)) (HX N)) (.cons (.bl m) .nil)))))
        (.tab pm Ue e4 zV zW zX)
theorem LB {f:Addr} {d:FuncData} (F:Dp K "_law_spread" "_law_spread" Ey f d) (T:Txt mg) (b:Binds K d ["_law_asks_here","_law_cells","_law_names_here"] []) (m:mg "_law_spread"=some (.ref f)) (c:Df P w K mg base "_law_mix" ["_law_cell_here","_law_k"] 1 Dr) (a:Df P w K mg base "_law_copy" ["_law_thing"] 20 (Cc 20)):∀n:Nat,BX P w K mg base DH n f d ["_law_asks_here","_law_cells","_law_names_here"] (Fi n)
 |0=>Ic (fun vs H Q E h=>by obtain⟨_,_,_,_,_,_,_,_,_,_,e,_⟩:=h;omega)
 |n+1=>Uh F T c a (Df.mk' F b m (LB F T b m c a n))
end
end Cg
namespace Cg
open PySem L2
section
variable{P:Program} {w:World} {K:ACh} [BA K] {mg:Str->Option Value} {base:Heap}
theorem S_:Ax ["_law_asks_here","_law_cell_here","_law_names_here","_law_way","_law_number","_law_k","_law_more","_law_cells"] ["_law_asks_here","_law_cell_here","_law_names_here"] (AL IX):=⟨rfl,rfl,rfl,by decide+kernel,rfl,by decide+kernel,by decide+kernel⟩
theorem Xj {f:Addr} {fd:FuncData} (F:Dp K "_law_large" "_law_large" IX f fd) (T:Txt mg) (Kz:Df P w K mg base "_law_mix" ["_law_cell_here","_law_k"] 1 Dr):BX P w K mg base DH 2 f fd ["_law_asks_here","_law_cell_here","_law_names_here"] NC:=by
 obtain⟨Ub,Uc,g,l,p,u⟩:=Kz.ex
 refine F.ok S_ (fun vs H Q E h=>?_) (fun LF A outer s H vs Q E hr h=>?_)
 ·obtain⟨v,a0,c,nm,ys,rfl,hv,BO,za,da,hn,q⟩:=h
  rfl
 ·obtain⟨v,a0,c,nm,ys,rfl,hv,BO,za,da,hn,q⟩:=h
  have nd:=S_.nd
  have hu:=Bw hr
  have d:Aj 1 _:=hr.mono (by first|decide|omega)
  refine⟨_,(AF (AX (i:=3) nd rfl (Or.inl rfl) (AN Aq (AK u d rfl p g l .nil AV (AA (pv 1) (AA AD AB))) AD))
   (AF (AX (i:=4) nd rfl (Or.inl rfl) (AK u d rfl p g l .nil AV (AA (pv 1) (AA AD AB))))
   (AF (Af (AQ Bk (pv 3) AD (AU _)) (AH (DG PassesOwn.never rfl (BZ rfl T.range (AA (AN Bp AD (AN Aq (pv 4) AD)) AB)) (CP (i:=5) nd rfl (Or.inl rfl)) (AF (AX (i:=6) nd rfl (Or.inl rfl) (Cj Bk (AN Aq (AN Bc (AK u d rfl p g l .nil AV (AA (pv 1) (AA AD AB))) (AS (r:=CJ K) Aw (@A' _ _ _ _ (@AA _ _ _ _ _ (@AD _ _ _ _) (@AA _ _ _ _ _ (@AD _ _ _ _) (@AA _ _ _ _ _ (@AD _ _ _ _) (@AA _ _ _ _ _ (@AD _ _ _ _) (@AA _ _ _ _ _ (@AD _ _ _ _) (@AA _ _ _ _ _ (@AD _ _ _ _) (@AA _ _ _ _ _ (@AD _ _ _ _) (@AA _ _ _ _ _ (@AD _ _ _ _) (@AA _ _ _ _ _ (@AD _ _ _ _) (@AA _ _ _ _ _ (@AD _ _ _ _) AB rfl) rfl) rfl) rfl) rfl) rfl) rfl) rfl) rfl) rfl)) (pv 5) (fun _ _=>rfl))) AD) AD (AU _)))
   (AH (Af (AQ Bk (AN Aq (AN Bc (AK u d rfl p g l .nil AV (AA (pv 1) (AA AD AB))) (AS (r:=CJ K) Aw (@A' _ _ _ _ (@AA _ _ _ _ _ (@AD _ _ _ _) (@AA _ _ _ _ _ (@AD _ _ _ _) (@AA _ _ _ _ _ (@AD _ _ _ _) (@AA _ _ _ _ _ (@AD _ _ _ _) (@AA _ _ _ _ _ (@AD _ _ _ _) (@AA _ _ _ _ _ (@AD _ _ _ _) (@AA _ _ _ _ _ (@AD _ _ _ _) (@AA _ _ _ _ _ (@AD _ _ _ _) (@AA _ _ _ _ _ (@AD _ _ _ _) (@AA _ _ _ _ _ (@AD _ _ _ _) AB rfl) rfl) rfl) rfl) rfl) rfl) rfl) rfl) rfl) rfl)) (pv 5) (fun _ _=>rfl))) AD) AD (AU _)) (AH (AX (i:=0) nd rfl (Or.inl rfl) (BF (AA Ag (AA (A' (AA (pv 0) AB)) (AA (pv 6) AB)))))) (AH (AX (i:=0) nd rfl (Or.inl rfl) (BF (AA Ag (AA (Mn (Gn (AS (r:=CJ K) Aw (pv 2) (AN Aq (pv 5) AD) (fun _ _=>rfl)) (pv 0) Mm) rfl rfl (by simp) (by simp)) (AA (A' AB) (AA (pv 6) AB)))))))))))) AO)
   (AF (Af (AQ Bk (pv 3) AD (AU _)) (AF (Eh (i:=7) (fv:=["_law_cell_here"]) (fs:=[1]) rfl (.of (by rfl)) nd rfl (Or.inl rfl) (BZ rfl T.range (AA (AN Bp AD (AN Aq (pv 4) AD)) AB)) (fun _ _ _ _=>BR) (fun C s0 H0 fp=>(AS (r:=CJ K) Aw (A' (AA (BF (AA Ag AB)) (AA (BF (AA Ag (AA (pv 0) AB))) AB))) (AN Aq (AN Bc (AK u d rfl p g l .nil AV (AA (pv 1) (AA AD AB))) (AN Bp (pv 0) AD)) AD) (fun _ _=>rfl))))
   (AH (AX (i:=0) nd rfl (Or.inl rfl) (BF (AA Ag (AA (AN Qc (pv 7) (A' (AA (pv 0) AB))) (AA (Cj Bk (AN Aq (AN Bc (pv 4) AD) AD) AD (AU _)) AB))))))) AO)
   (AH (AR (pv 0))))))),?_⟩
  refine⟨_,rfl,c,6,rfl,by decide,fun r6 _ _=>⟨_,_,rfl,rfl,(by show(0:Int)<_;decide),?_⟩⟩
  generalize r6 % 8=wy
  refine⟨_,rfl,c,7,rfl,by decide,fun U _ _=>?_⟩
  dsimp only[Dm]
  refine FU (t:=Gg _ _ _) (fun σ' H1=>∃(w:V) (b:Ak) (o5 o6:Option V),σ'=[some w,some (.int c),some (.ref nm),some (.int wy),some (.int U),o5,o6,none]/\AG H H1/\Val H1 w b.pt/\b.ok/\b.size<=67/\b.deep<=15/\(wy≠0->b.size<=57/\b.deep<=5)) (fun σ' H1 ⟨w,b,o5,o6,es,s1,vb,bo,bz,bd,bw⟩=>?_) (fun key=>?_)
  rotate_left
  ·refine⟨_,rfl,rfl,_,rfl,By (fun h0=>?_) (fun h0=>key _ _ ⟨v,a0,none,none,rfl,AG.refl H,hv,BO,by lia,by lia,fun _=>⟨za,da⟩⟩)⟩
   have zY:wy=0:=V.int.inj (of_decide_eq_true h0)
   have m5:=DX U (n:=5) (by decide)
   obtain⟨k5,zb⟩:∃k:Nat,6+U % 5=(k:Int):=⟨(6+U % 5).toNat,by lia⟩
   have k10:k5<=10:=by lia
   refine⟨_,rfl,_,_,rfl,rfl,(by show(0:Int)<_;decide),_,_,rfl,rfl,?_⟩
   rw[zb]
   refine⟨k5,rfl,by lia,by lia,DN (lo:=0) (n:=k5) (fun i σ Hi=>∃(w:V) (b:Ak) (o5 o6:Option V),σ=[some w,some (.int c),some (.ref nm),some (.int wy),some (.int U),o5,o6,none]/\AG H Hi/\Val Hi w b.pt/\b.ok/\b.size<=57+i/\b.deep<=5+i) ⟨v,a0,none,none,rfl,AG.refl H,hv,BO,by lia,by lia⟩ ?_ ?_⟩
   ·rintro i σ Hi hi ⟨w,b,o5,o6,rfl,si,vb,bo,bz,bd⟩
    obtain⟨L,hL⟩:∃L:List V,L=[V.int 1,.int 2,.int 4,.int 8,.int 16,.int 32,.int 64,.int 128,.int 256,.int 512]:=⟨_,rfl⟩
    obtain⟨v4,hZ,X⟩:=FQ (xs:=L) (i:=0+(i:Int)) (by lia) (by rw[hL];simp only[List.length_cons,List.length_nil];lia)
    have zc:∃m:Int,v4=.int m/\0<m/\m<1073741824:=by
     rw[hL]at X
     simp only[List.mem_cons,List.not_mem_nil,or_false]at X
     rcases X with rfl|rfl|rfl|rfl|rfl|rfl|rfl|rfl|rfl|rfl<;>exact⟨_,rfl,by decide,by decide⟩
    obtain⟨m,rfl,jm,jn⟩:=zc
    rw[hL]at hZ
    clear X hL
    refine⟨_,rfl,c,8,rfl,by decide,fun r8 _ _=>⟨Ad (show 10<=1000 by decide),fun pl cK=>⟨_,rfl,pl,_,_,_,rfl,rfl,Ah.of AE,hZ,_,_,rfl,rfl,⟨jm,jn⟩,_,_,rfl,rfl,(by show(0:Int)<_;decide),rfl,?_⟩⟩⟩
    have sl:=AG.new (o:=.lst [V.int 1,.int 2,.int 4,.int 8,.int 16,.int 32,.int 64,.int 128,.int 256,.int 512]) cK
    generalize upd Hi pl (.lst [V.int 1,.int 2,.int 4,.int 8,.int 16,.int 32,.int 64,.int 128,.int 256,.int 512])=Hj at sl⊢
    generalize decide (V.int (r8/m % 2)=V.int 1)=mo
    refine⟨_,rfl,c,9,rfl,by decide,fun r9 _ _=>⟨Ad (show 10<=1000 by decide),fun vE nU=>⟨_,rfl,vE,_,_,_,rfl,rfl,Ah.of AE,hZ,_,_,rfl,rfl,⟨jm,jn⟩,_,_,rfl,rfl,(by show(0:Int)<_;decide),rfl,_,rfl,?_⟩⟩⟩
    have iX:=AG.new (o:=.lst [V.int 1,.int 2,.int 4,.int 8,.int 16,.int 32,.int 64,.int 128,.int 256,.int 512]) nU
    generalize upd Hj vE (.lst [V.int 1,.int 2,.int 4,.int 8,.int 16,.int 32,.int 64,.int 128,.int 256,.int 512])=Hk at iX⊢
    have sk:=(si.trans sl).trans iX
    have vk:=(vb.up sl).up iX
    refine By (fun _=>?_) (fun _=>?_)
    ·refine⟨_,rfl,Bs,fun e I=>⟨_,rfl,Ad (show 3<=1000 by decide),fun N J=>?_⟩⟩
     have B:=AG.new (o:=.lst [w]) I
     have O:upd Hk e (.lst [w]) e=some (.lst [w]):=AE
     generalize upd Hk e (.lst [w])=Hm at B O J⊢
     have G:=AG.new (o:=.tup [.str "row",.ref e,.bl mo]) J
     refine⟨.ref N,.row [b] mo,_,_,rfl,(sk.trans B).trans G,.tup (Bj.of AE) (.cons (.str _) (.cons (.lst (.inl (G _ _ O)) (.cons ((vk.up B).up G) .nil)) (.cons (.bl _) .nil))),⟨bo,trivial⟩,?_,?_⟩
     ·simp only[Ak.size,Ak.AI];lia
     ·simp only[Ak.deep,Ak.AW];lia
    ·have m4:=DX (0+(i:Int)) (n:=4) (by decide)
     obtain⟨jj,Ul⟩:∃j:Nat,(0+(i:Int)) % 4=(j:Int):=⟨((0+(i:Int)) % 4).toNat,by lia⟩
     obtain⟨y,hy⟩:∃y,ys[jj]?=some y:=⟨_,ACd (by rw[hn.len];lia)⟩
     refine fun e I=>?_
     have B:=AG.new (o:=.dK []) I
     refine⟨_,rfl,_,rfl,_,_,rfl,rfl,(by show(0:Int)<_;decide),nm,_,_,_,rfl,rfl,Ah.of ((sk.trans B) _ _ hn.at_),by rw[Ul];exact Av (by rw[List.getElem?_map,hy];rfl),_,rfl,AE,[(Sum.inr y,w)],rfl,by simp,?_⟩
     have m1:CT [] [((Sum.inr y:Key),w)]=[(Sum.inr y,w)]:=rfl
     rw[m1]
     have iO:AG Hk (upd (upd Hk e (.dK [])) e (.dK [(Sum.inr y,w)])):=B.put I
     have O:upd (upd Hk e (.dK [])) e (.dK [(Sum.inr y,w)]) e=some (.dK [(Sum.inr y,w)]):=AE
     generalize upd (upd Hk e (.dK [])) e (.dK [(Sum.inr y,w)])=Hm at iO O⊢
     refine⟨Nat.zero_le _,fun N J=>?_⟩
     have G:=AG.new (o:=.lst []) J
     have Y:upd Hm N (.lst []) N=some (.lst []):=AE
     generalize upd Hm N (.lst [])=Hn at G Y⊢
     refine⟨_,rfl,Ad (show 4<=1000 by decide),fun p3 ZJ=>?_⟩
     have M:=AG.new (o:=.tup [.str "table",.ref e,.ref N,.bl mo]) ZJ
     have t12:=iO.trans G
     refine⟨.ref p3,.tab [y] [b] [] mo,_,_,rfl,(sk.trans t12).trans M,.tup (Bj.of AE) (.cons (.str _) (.cons (.BM (ks:=[y]) (.inl (M _ _ (G _ _ O))) rfl (.cons ((vk.up t12).up M) .nil)) (.cons (.lst (.inl (M _ _ Y)) .nil) (.cons (.bl _) .nil)))),?_,?_,?_⟩
     ·simp only[Ak.ok]
      exact⟨rfl,by simp,fun k hk=>by rw[List.mem_singleton.mp hk];exact hn.nb _ (ACg hy),by simp,⟨by simp,.nil,rfl⟩,fun x hx=>(nomatch hx),bo,trivial⟩
     ·simp only[Ak.size,Ak.AI];lia
     ·simp only[Ak.deep,Ak.AW];lia
   ·rintro σ Hi ⟨w,b,o5,o6,rfl,si,vb,bo,bz,bd⟩
    exact key _ _ ⟨w,b,o5,o6,rfl,si,vb,bo,by lia,by lia,fun z=>absurd zY z⟩
  subst es
  refine⟨_,rfl,rfl,_,rfl,By (fun h1=>?_) (fun _=>⟨_,rfl,q w b H1 s1 vb bo (by lia) bd⟩)⟩
  have wy1:wy=1:=V.int.inj (of_decide_eq_true h1)
  have bw:=bw (by lia)
  have m4:=DX U (n:=4) (by decide)
  obtain⟨n4,iY⟩:∃k:Nat,9+U % 4=(k:Int):=⟨(9+U % 4).toNat,by lia⟩
  have n12:n4<=12:=by lia
  refine⟨_,rfl,_,_,rfl,rfl,(by show(0:Int)<_;decide),_,_,rfl,rfl,?_⟩
  rw[iY]
  refine⟨n4,rfl,by lia,by lia,?_⟩
  refine Cr none n4 (fun i=>.int (0+(i:Int))) (fun i us S=>∃Z:List Ak,us=Ak.D' Z/\Ak.IE Z/\Ak.AI Z<=i/\Ak.AW Z<=1) (by lia) (fun D hD=>⟨[],rfl,trivial,by simp[Ak.AI],by simp[Ak.AW]⟩) (fun i us S D ws bt hD iv=>iv) (fun l' z=>nomatch z) (fun i us S hi s iv=>hi) (fun i us S v H' hi s iv y=>⟨y.2,y.1⟩) (fun us S s iv=>Nat.le_refl _) (fun i us S R hi bt ⟨Z,e1,e2,e3,e4⟩ lu k=>?_) (fun D S ws us hD bt d2 lu vl ⟨Z,e1,e2,e3,e4⟩=>?_)
  ·refine⟨Bs,fun q1 vF=>?_⟩
   have B:=AG.new (o:=.tup [.str "any"]) vF
   have O:upd S q1 (.tup [.str "any"]) q1=some (.tup [.str "any"]):=AE
   generalize upd S q1 (.tup [.str "any"])=H3 at B O⊢
   refine⟨_,rfl,Az,fun q2 vH=>?_⟩
   have G:=AG.new (o:=.tup [.str "just",.int (0+(i:Int))]) vH
   have Y:upd H3 q2 (.tup [.str "just",.int (0+(i:Int))]) q2=some (.tup [.str "just",.int (0+(i:Int))]):=AE
   generalize upd H3 q2 (.tup [.str "just",.int (0+(i:Int))])=H4 at G Y⊢
   refine⟨Az,fun q3 zd=>?_⟩
   have M:=AG.new (o:=.lst [.ref q1,.ref q2]) zd
   have f3:upd H4 q3 (.lst [.ref q1,.ref q2]) q3=some (.lst [.ref q1,.ref q2]):=AE
   generalize upd H4 q3 (.lst [.ref q1,.ref q2])=H5 at M f3⊢
   refine⟨_,rfl,c,8,rfl,by decide,fun r8 _ _=>?_⟩
   have m2:=DX (r8/(0+(i:Int)+1)) (n:=2) (by decide)
   obtain⟨v2,gN,iN⟩:=FQ (xs:=[V.ref q1,V.ref q2]) (i:=r8/(0+(i:Int)+1) % 2) m2.1 m2.2
   refine⟨_,rfl,_,_,rfl,rfl,_,_,rfl,rfl,⟨by lia,by lia⟩,_,_,rfl,rfl,(by show(0:Int)<_;decide),q3,_,_,_,rfl,rfl,Ah.of f3,gN,?_⟩
   have tt:=(B.trans G).trans M
   have add:∀a:Ak,a.ok->a.size=1->a.deep=1->Val (nw S H5) v2 a.pt->R v2 H5:=fun a h1 h2 h3 h4=>k v2 a.pt H5 (.of tt) h4 ⟨Z++[a],by rw[Ak.Eo,e1];rfl,Ak.Ep e2 (Ak.JU h1),by rw[Ak.Ai,Ak.Fz];lia,by rw[Ak.Bi,Ak.F_];lia⟩
   simp only[List.mem_cons,List.not_mem_nil,or_false]at iN
   rcases iN with rfl|rfl
   ·exact add .any trivial rfl rfl (.tup (Bj.of (by rw[Al vF];exact(G.trans M) _ _ O)) (.cons (.str _) .nil))
   ·exact add (.Ac (.int (0+(i:Int)))) (by simp only[Ak.ok];exact⟨.one (.int _),trivial,by simp[Pt.size]⟩) rfl rfl (.tup (Bj.of (by rw[Al (B.free vH)];exact M _ _ Y)) (.cons (.str _) (.cons (.int _) .nil)))
  ·subst e1
   have s2:=bt.same
   refine⟨_,rfl,_,rfl,Bs,fun e I=>?_⟩
   have B:=AG.new (o:=.lst [w]) I
   have O:upd S e (.lst [w]) e=some (.lst [w]):=AE
   generalize upd S e (.lst [w])=H3 at B O⊢
   have lws:=vl.length
   refine⟨D,e,_,_,rfl,rfl,B _ _ d2,O,Ad (by simp only[List.length_cons,List.length_nil];lia),fun N J=>?_⟩
   have G:=AG.new (o:=.lst (ws++[w])) J
   have Y:upd H3 N (.lst (ws++[w])) N=some (.lst (ws++[w])):=AE
   generalize upd H3 N (.lst (ws++[w]))=H4 at G Y⊢
   refine⟨_,rfl,_,_,rfl,rfl,⟨by decide,by decide⟩,_,_,rfl,rfl,(by show(0:Int)<_;decide),rfl,Ad (show 3<=1000 by decide),fun p3 ZJ=>?_⟩
   generalize decide (V.int (U/4 % 2)=V.int 1)=mo
   have M:=AG.new (o:=.tup [.str "row",.ref N,.bl mo]) ZJ
   have tt:=(B.trans G).trans M
   refine⟨_,rfl,q (.ref p3) (.row (Z++[b]) mo) _ ((s1.trans s2).trans tt) (.tup (Bj.of AE) (.cons (.str _) (.cons (.lst (.inl (M _ _ Y)) ?_) (.cons (.bl _) .nil)))) (Ak.Ep e2 (Ak.JU bo)) ?_ ?_⟩
   ·rw[Ak.Eo]
    exact((vl.up Dh).up tt).snoc ((vb.up s2).up tt)
   ·simp only[Ak.size];rw[Ak.Ai,Ak.Fz];lia
   ·simp only[Ak.deep];rw[Ak.Bi,Ak.F_];lia
end
end Cg
namespace Cg
open PySem L2
section
variable{P:Program} {w:World} {K:ACh} [BA K] {mg:Str->Option Value} {base:Heap}
theorem aZ:Ax ["_law_script","_law_names_here","_law_drawn","_law_asks_here","_law_other","_law_docs","_law_k","_law_kept","_law_told","_law_doc_here","_law_due"] ["_law_script"] (AL Na):=⟨rfl,rfl,rfl,by decide+kernel,rfl,by decide+kernel,by decide+kernel⟩
theorem dG {f:Addr} {fd:FuncData} (F:Dp K "law" "law" Na f fd) (T:Txt mg) (Uj:Df P w K mg base "good_form" ["asks"] 7 NH) (iZ:Df P w K mg base "_law_cell" ["_law_script","_law_k"] 1 (Qp K)) (dH:Df P w K mg base "_law_names" ["_law_cell_here"] 2 KI) (K':Df P w K mg base "_law_copy" ["_law_thing"] 50 (Cc 50)) (XU:Df P w K mg base "_law_ruin" ["_law_thing"] 50 (Hq 50)) (XY:Df P w K mg base "_law_asks" ["_law_cells","_law_deep","_law_names_here"] 10 (KJ 10)) (cv:Df P w K mg base "_law_fit" ["_law_asks_here","_law_cells","_law_names_here"] 25 (Ov 25)) (Xe:Df P w K mg base "_law_bent" ["_law_doc_here","_law_cell_here","_law_deep","_law_names_here"] 20 (KL 20)) (Xi:Df P w K mg base "_law_lets" ["_law_asks_here","_law_doc_here"] 20 (GB 20)) (Zb:Df P w K mg base "_law_is_good" ["_law_asks_here"] 20 (Fl 20)) (Ni:Df P w K mg base "_law_spread" ["_law_asks_here","_law_cells","_law_names_here"] 45 (Fi 45)) (dI:Df P w K mg base "_law_large" ["_law_asks_here","_law_cell_here","_law_names_here"] 2 NC):BX P w K mg base DH 60 f fd ["_law_script"] (OX K):=by
 obtain⟨eR,eS,l,m,t,B⟩:=Uj.ex
 obtain⟨vN,vR,G,I,J,L⟩:=iZ.ex
 obtain⟨fNames,nV,dJ,dM,dO,dP⟩:=dH.ex
 obtain⟨XR,XS,MT,MU,MV,MW⟩:=K'.ex
 obtain⟨hG,hJ,aa,ab,af,ag⟩:=XU.ex
 obtain⟨hU,hV,So,Sq,Sr,Ss⟩:=XY.ex
 obtain⟨mZ,ma,ZN,ZO,ZP,ZQ⟩:=cv.ex
 obtain⟨iK,iL,Sw,Sx,Sy,Sz⟩:=Xe.ex
 obtain⟨iS,iT,QA,QB,QC,QD⟩:=Xi.ex
 obtain⟨ZV,ZW,S,U,X,Y⟩:=Zb.ex
 obtain⟨ZZ,Za,GG,GH,GK,GL⟩:=Ni.ex
 obtain⟨nW,nX,dQ,dR,dS,dU⟩:=dI.ex
 refine F.ok aZ (fun vs H Q E h=>?_) (fun LF A outer s H vs Q E M h=>?_)
 ·obtain⟨a,ns,rfl,hS,hlen,q⟩:=h
  rfl
 ·obtain⟨a,ns,rfl,hS,hlen,q⟩:=h
  have nd:=aZ.nd
  have hu:=Bw M
  have d:Aj 7 _:=M.mono (by first|decide|omega)
  have D:Aj 1 _:=M.mono (by first|decide|omega)
  have Zc:Aj 2 _:=M.mono (by first|decide|omega)
  have IY:Aj 50 _:=M.mono (by first|decide|omega)
  have Xk:Aj 50 _:=M.mono (by first|decide|omega)
  have dV:Aj 10 _:=M.mono (by first|decide|omega)
  have Su:Aj 25 _:=M.mono (by first|decide|omega)
  have Nh:Aj 20 _:=M.mono (by first|decide|omega)
  have Xl:Aj 20 _:=M.mono (by first|decide|omega)
  have N:Aj 20 _:=M.mono (by first|decide|omega)
  have Xm:Aj 45 _:=M.mono (by first|decide|omega)
  have Zd:Aj 2 _:=M.mono (by first|decide|omega)
  refine⟨_,(AF (AX (i:=1) nd rfl (Or.inl rfl) (AK dP Zc rfl dO dJ dM .nil AV (AA (AK L D rfl J G I .nil AV (AA (pv 0) (AA AD AB))) AB)))
   (AF (AX (i:=2) nd rfl (Or.inl rfl) (AK Ss dV rfl Sr So Sq .nil AV (AA (BI (fv:=["_law_script"]) (fs:=[0]) rfl (.of (by rfl)) (BZ rfl T.range (AA AD AB)) (fun _ _ _ _=>BR) (fun C s0 H0 fp=>(AK L D rfl J G I .nil AV (AA (pv 1) (AA (AN Bp AD (pv 0)) AB))))) (AA AD (AA (pv 1) AB)))))
   (AF (AX (i:=3) nd rfl (Or.inl rfl) (AK dU Zd rfl dS dQ dR .nil AV (AA (pv 2) (AA (AK L D rfl J G I .nil AV (AA (pv 0) (AA AD AB))) (AA (pv 1) AB)))))
   (AF (AX (i:=4) nd rfl (Or.inl rfl) (AK GL Xm rfl GK GG GH .nil AV (AA (pv 3) (AA (BI (fv:=["_law_script"]) (fs:=[0]) rfl (.of (by rfl)) (BZ rfl T.range (AA AD AB)) (fun _ _ _ _=>BR) (fun C s0 H0 fp=>(AK L D rfl J G I .nil AV (AA (pv 1) (AA (AN Bp AD (pv 0)) AB))))) (AA (pv 1) AB)))))
   (AF (AX (i:=5) nd rfl (Or.inl rfl) (A' (AA (AK ZQ Su rfl ZP ZN ZO .nil AV (AA (pv 3) (AA (BI (fv:=["_law_script"]) (fs:=[0]) rfl (.of (by rfl)) (BZ rfl T.range (AA AD AB)) (fun _ _ _ _=>BR) (fun C s0 H0 fp=>(AK L D rfl J G I .nil AV (AA (pv 1) (AA (AN Bp AD (pv 0)) AB))))) (AA (pv 1) AB)))) AB)))
   (AF (DG PassesOwn.never rfl (BZ rfl T.range (AA AD AB)) (CP (i:=6) nd rfl (Or.inl rfl)) (AH (Ci (Gj PySem.F.plainAttrs_list PySem.F.slot_list_append PySem.F.type_list_append EG (pv 5) (AA (AK Sz Nh rfl Sy Sw Sx .nil AV (AA (AS (r:=CJ K) Aw (pv 5) AD (fun _ _=>rfl)) (AA (AK L D rfl J G I .nil AV (AA (pv 0) (AA (AN Bp AD (pv 6)) AB))) (AA AD (AA (pv 1) AB))))) AB)))))
   (AF (AX (i:=7) nd rfl (Or.inl rfl) (AK MW IY rfl MV MT MU .nil AV (AA (BF (AA (pv 3) (AA (pv 4) AB))) AB)))
   (AF (AX (i:=8) nd rfl (Or.inl rfl) (Fg (AK B d rfl t l m .nil AV (AA (pv 3) AB))))
   (AF (Af (PW.pt (ED (DS (A_ (AK Y N rfl X S U .nil AV (AA (pv 8) AB)))) (ED (AQ (RS (Aj.units M):Dy _ _ Wm) (Fg (AK B d rfl t l m .nil AV (AA (pv 4) AB))) (pv 8) (AU _)) (Ed (DS (A_ (AK Y N rfl X S U .nil AV (AA (Fg (AK B d rfl t l m .nil AV (AA (pv 4) AB))) AB)))))))) (AH (AR Ct)) AO)
   (AF (DG PassesOwn.never rfl (Br (pv 5)) (CP (i:=9) nd rfl (Or.inl rfl)) (AH (Af (AQ Ux (AK QD Xl rfl QC QA QB .nil AV (AA (pv 8) (AA (pv 9) AB))) (AK QD Xl rfl QC QA QB .nil AV (AA (pv 3) (AA (pv 9) AB))) (AU _)) (AH (AR Ct)) AO)))
   (AF (AX (i:=10) nd rfl (Or.inl rfl) (AK MW IY rfl MV MT MU .nil AV (AA (pv 8) AB)))
   (AF (Af (PW.pt (ED (AQ (RS (Aj.units M):Dy _ _ Wm) (Fg (AK B d rfl t l m .nil AV (AA (pv 8) AB))) (pv 10) (AU _)) (Ed (AQ (RS (Aj.units M):Dy _ _ Wm) (BF (AA (pv 3) (AA (pv 4) AB))) (pv 7) (AU _))))) (AH (AR Ct)) AO)
   (AF (Ci (AK ag Xk rfl af aa ab .nil AV (AA (pv 8) AB)))
   (AF (Ci (AK ag Xk rfl af aa ab .nil AV (AA (Fg (AK B d rfl t l m .nil AV (AA (pv 10) AB))) AB)))
   (AH (AR (QN (Cj (Ki (Aj.units M):Dy _ _ RQ) (Fg (AK B d rfl t l m .nil AV (AA (pv 3) AB))) (pv 10) (AU _)) (QN (Cj (Ki (Aj.units M):Dy _ _ RQ) (Fg (AK B d rfl t l m .nil AV (AA (pv 4) AB))) (pv 10) (AU _)) (QN (Cj (Ki (Aj.units M):Dy _ _ RQ) (Fg (AK B d rfl t l m .nil AV (AA (pv 10) AB))) (pv 10) (AU _)) (Us (Cj (Ki (Aj.units M):Dy _ _ RQ) (BF (AA (pv 3) (AA (pv 4) AB))) (pv 7) (AU _)))))))))))))))))))))),?_⟩
  refine⟨_,rfl,a,ns,0,rfl,hS,fun c0 _=>⟨c0,rfl,fun nm ys H1 s1 nn hn=>?_⟩⟩
  refine⟨14,rfl,by decide,by decide,CV (n:=14) (fun i=>.int (0+(i:Int))) (fun _ v=>∃z:Int,v=.int z) (by decide) (fun i H2 hi Z=>hi) (fun i H2 v H' hi Z y=>⟨y.2,y.1⟩) (fun H2 Z=>Nat.le_refl _) (fun i H2 R hi Z r=>⟨_,rfl,_,rfl,_,_,rfl,rfl,a,ns,1+i,(by show[V.ref a,V.int (1+(0+(i:Int)))]=_;simp),(s1.trans Z).seq hS,fun c _=>r _ H2 (AG.refl _) ⟨c,rfl⟩⟩) (fun D1 H2 vs1 nY Z d1 ze my=>?_)⟩
  obtain⟨JJ,rfl⟩:=ints_of my
  rw[List.length_map]at ze
  have zf:nm≠D1:=fun z=>by rw[<-z,hn.at_]at nY;cases nY
  refine⟨_,rfl,D1,4,nm,JJ,ys,rfl,by decide,d1,by lia,zf,hn.up Z,fun v1 a1 zg H3 zh hl3 le3 v3 zi tZ yr=>?_⟩
  have s13:AG H1 H3:=zh.over Z nY
  have S3:=s1.trans s13
  have V1:Val H3 v1 a1.pt:=v3.up Dh
  refine⟨_,rfl,_,rfl,a,ns,0,rfl,S3.seq hS,fun c1 _=>⟨_,rfl,v1,a1,c1,nm,ys,rfl,V1,zi,by lia,by lia,hn.up s13,fun w b H4 s4 vb bo bz bd=>?_⟩⟩
  have S4:=S3.trans s4
  have iY:=(hn.up s13).up s4
  have bG:=Ak.gP b bo
  have bw:=Ak.aF b bo
  have bd2:=Ak.aG b bo
  have bj:=Ak.aK b bo
  have bs:=Ak.XA b bo
  refine⟨_,rfl,14,rfl,by decide,by decide,CV (n:=14) (fun i=>.int (0+(i:Int))) (fun _ v=>∃z:Int,v=.int z) (by decide) (fun i H2 hi Z=>hi) (fun i H2 v H' hi Z y=>⟨y.2,y.1⟩) (fun H2 Z=>Nat.le_refl _) (fun i H2 R hi Z r=>⟨_,rfl,_,rfl,_,_,rfl,rfl,a,ns,15+i,(by show[V.ref a,V.int (15+(0+(i:Int)))]=_;simp),(S4.trans Z).seq hS,fun c _=>r _ H2 (AG.refl _) ⟨c,rfl⟩⟩) (fun D2 H5 vs2 j_ s5 d2 gr zj=>?_)⟩
  obtain⟨QI,rfl⟩:=ints_of zj
  rw[List.length_map]at gr
  have zk:nm≠D2:=fun z=>by rw[<-z,iY.at_]at j_;cases j_
  refine⟨_,rfl,w,b,D2,nm,QI,ys,rfl,vb.up (KR s5 j_),bG,by lia,by lia,by lia,by lia,d2,by lia,zk,iY.up s5,fun O a2 zm H6 zo uv le6 v6 nZ=>?_⟩
  obtain⟨cG,cw,cd⟩:=nZ.keeps bG
  have cs:=nZ.Il bG bs
  have s46:AG H4 H6:=zo.over s5 j_
  have S6:=S4.trans s46
  have nh:=iY.up s46
  have vS:=vb.up s46
  have V2:Val H6 O a2.pt:=v6.up Dh
  refine⟨_,rfl,14,rfl,by decide,by decide,CV (n:=14) (fun i=>.int (0+(i:Int))) (fun _ v=>∃z:Int,v=.int z) (by decide) (fun i H2 hi Z=>hi) (fun i H2 v H' hi Z y=>⟨y.2,y.1⟩) (fun H2 Z=>Nat.le_refl _) (fun i H2 R hi Z r=>⟨_,rfl,_,rfl,_,_,rfl,rfl,a,ns,29+i,(by show[V.ref a,V.int (29+(0+(i:Int)))]=_;simp),(S6.trans Z).seq hS,fun c _=>r _ H2 (AG.refl _) ⟨c,rfl⟩⟩) (fun D3 H7 vs3 aQ s7 d3 zp zr=>?_)⟩
  obtain⟨zu,rfl⟩:=ints_of zr
  rw[List.length_map]at zp
  have zv:nm≠D3:=fun z=>by rw[<-z,nh.at_]at aQ;cases aQ
  refine⟨_,rfl,w,b,D3,nm,zu,ys,rfl,vS.up (KR s7 aQ),bo,by lia,by lia,d3,by lia,zv,nh.up s7,fun x0 t0 zw H8 zy hl8 le8 v8 vT zt0 pt0 zz=>⟨Bs,fun p5 K_=>?_⟩⟩
  have s68:AG H6 H8:=zy.over s7 aQ
  have S8:=S6.trans s68
  have z_:=nh.up s68
  have I0:GV H8 (upd H8 p5 (.lst [x0])) p5 [x0] [t0]:=⟨AG.new K_,K_,AE,.cons ((v8.up Dh).up (KR (AG.new K_) K_)) .nil⟩
  refine⟨5,rfl,by decide,by decide,DN (lo:=0) (n:=5) (fun i σ Hi=>∃(ws:List V) (us:List Pt) (o6:Option V),σ=[some (.ref a),some (.ref nm),some v1,some w,some O,some (.ref p5),o6,none,none,none,none]/\GV H8 Hi p5 (x0::ws) (t0::us)/\ws.length=i/\(∀u∈us,u.doc/\u.size<=704/\u.deep<=19/\u.wide<=62)) ⟨[],[],none,rfl,I0,rfl,fun u hu=>nomatch hu⟩ ?_ ?_⟩
  ·rintro i σ Hi hi ⟨ws,us,o6,rfl,DI,lw,du⟩
   have Vi:=DI.v
   cases Vi with
   |cons hx M=>
    refine⟨_,rfl,.inl ⟨rfl,_,Ah.of DI.f⟩,_,rfl,p5,_,0,x0,rfl,rfl,Ah.of DI.f,EC,_,rfl,_,rfl,_,_,rfl,rfl,a,ns,43+i,(by show[V.ref a,V.int (43+(0+(i:Int)))]=_;simp),(S8.trans DI.s).seq hS,fun c _=>⟨_,rfl,Du p5 Hi,x0,t0,c,0,nm,ys,61,rfl,CG,hx,vT,by lia,by lia,by decide,by decide,z_.up DI.s,by decide,by decide,zz,fun w' t' H' s' v' d' z' p' wd'=>?_⟩⟩
    refine⟨p5,_,w',rfl,rfl,s' _ _ DI.f,BN (by simp only[List.length_cons];lia),ws++[w'],us++[t'],_,rfl,DI.push s' (DI.lZ s' v'),by simp[lw],fun u hu=>?_⟩
    rcases List.mem_append.mp hu with h|h
    ·exact du u h
    ·rw[List.mem_singleton.mp h];exact⟨d',by lia,by lia,by lia⟩
  rintro σ HD ⟨ws,us,o6,rfl,DI,lw,du⟩
  obtain⟨wz,vU⟩:∃wz,wz=x0::ws:=⟨_,rfl⟩
  obtain⟨uz,vV⟩:∃uz,uz=t0::us:=⟨_,rfl⟩
  rw[<-vU,<-vV]at DI
  have duz:∀u∈uz,u.doc/\u.size<=800:=fun u hu=>by
   rw[vV]at hu
   rcases List.mem_cons.mp hu with rfl|hu
   ·exact⟨vT,by lia⟩
   ·have:=du u hu
    exact⟨this.1,by lia⟩
  have lwz:wz.length=6:=by rw[vU,List.length_cons,lw]
  have vW:=(vS.up s68).up DI.s
  have vX:=(V2.up s68).up DI.s
  have dpb:=Ak.PD b
  have dpc:=Ak.PD a2
  have nb:=Ak.HW b bG (by lia)
  have nc:=Ak.HW a2 cG (by lia)
  refine⟨_,rfl,_,rfl,Az,fun pT hpT=>?_⟩
  have tT:=AG.new (o:=.tup [w,O]) hpT
  have fT:upd HD pT (.tup [w,O]) pT=some (.tup [w,O]):=AE
  generalize upd HD pT (.tup [w,O])=HE at tT fT⊢
  have nK:(Pt.tup [b.pt,a2.pt]).nice:=by
   simp only[Pt.nice,Pt.DK]
   exact⟨by simp,nb,nc,trivial⟩
  have dK:(Pt.tup [b.pt,a2.pt]).deep<=40:=by simp only[Pt.deep,Pt.AW];lia
  have eK:=Pt.EY _ (Pt.Kg _ nK)
  refine⟨.ref pT,.tup [b.pt,a2.pt],rfl,.tup (Bj.of fT) (.cons (vW.up tT) (.cons (vX.up tT) .nil)),nK,by lia,fun wK HF sF vK=>?_⟩
  have vY:=vK.up Dh
  have SF:=tT.trans sF
  have ni:=(DI.up tT).up sF
  have ia:=vW.up SF
  have ib:=vX.up SF
  clear vK
  refine⟨_,rfl,HF,w,b,rfl,AG.refl _,ia,bG,by lia,fun tw g kA sG0 vG gd kfG=>?_⟩
  have TG:=Told.of sG0 vG kfG
  obtain⟨gG,gw,gdp⟩:=gd.keeps bG
  have gk:=gd.Pb bG bs
  have gg:=gd.good bG
  have vZ:=Ak.NZ g
  have vc:=Ak.HS g
  have dpg:=Ak.PD g
  have ng:=Ak.HW g gG (by lia)
  have eg:=Pt.EY _ (Pt.Kg _ ng)
  obtain⟨HG,kB⟩:∃HG,HG=FE HF kA:=⟨_,rfl⟩
  rw[<-kB]
  have vd:AG HF HG:=by rw[kB];exact TG.s
  have pG:XB (nw HF kA) HG:=by rw[kB];exact TG.p
  have kC:∀{H':Hp},AG HG H'->Val H' tw g.pt:=fun s=>(pG.up s).val vG
  refine⟨_,rfl,nw HF kA,tw,g,rfl,pG,vG,gG,gk,by lia,by lia,fun H9 s9=>⟨_,rfl,As ?_⟩⟩
  have S9:=vd.trans s9
  refine⟨_,rfl,H9,O,a2,rfl,AG.refl _,ib.up S9,cG,by lia,fun ow og HA0 sA0 vA od kfA=>?_⟩
  have TA:=Told.of sA0 vA kfA
  have eO:=nZ.eq bG cG gd od
  obtain⟨oG,owt,odp⟩:=od.keeps cG
  have dpo:=Ak.PD og
  obtain⟨ps,kD⟩:=Ak.XD og
  obtain⟨ts,dW⟩:=Ak.XD g
  have ve:=TA.val (AG.refl _)
  have sA:=TA.s
  generalize FE H9 HA0=HA at ve sA⊢
  have tvA:=kC (s9.trans sA)
  refine⟨_,rfl,ps,ts,by rw[<-kD];exact ve,by rw[<-dW];exact tvA,by rw[<-kD,<-dW];exact eO,by rw[<-kD];lia,_,rfl,As ?_⟩
  have SA:=S9.trans sA
  refine⟨_,rfl,HA,O,a2,rfl,AG.refl _,ib.up SA,cG,by lia,fun ow2 nj vf sB0 vB kE kfB=>?_⟩
  have TB:=Told.of sB0 vB kfB
  obtain⟨oG2,AAM,AAN⟩:=kE.keeps cG
  have vg:=Ak.NZ nj
  have vh:=Ak.HS nj
  have pB:=TB.p
  have sB:=TB.s
  generalize FE HA vf=HB at pB sB⊢
  refine⟨nw HA vf,ow2,nj,rfl,pB,vB,oG2,kE.Pb cG cs,by lia,by lia,fun HC sC=>⟨_,rfl,As ?_⟩⟩
  have nq:=((s9.trans sA).trans sB).trans sC
  have SC:=vd.trans nq
  refine⟨_,rfl,p5,rfl,⟨_,Ah.of (SC _ _ ni.f)⟩,FH (xs:=wz) (fun j σ Hj=>∃o9:Option V,σ=[some (.ref a),some (.ref nm),some v1,some w,some O,some (.ref p5),o6,some wK,some tw,o9,none]/\AG HC Hj) ⟨none,rfl,AG.refl _⟩ (fun j σ Hj _ ⟨_,_,sj⟩=>Ah.of (sj _ _ (SC _ _ ni.f))) ?_ ?_⟩
  ·rintro j x σ Hj hx ⟨o9,rfl,sj⟩
   obtain⟨u,hu,vu⟩:=(ni.v.up CG).get hx
   obtain⟨ie,cz⟩:=duz u (ACg hu)
   have SJ:=SC.trans sj
   have vi:=vu.up SJ
   refine⟨_,rfl,_,rfl,tw,x,g,u,rfl,kC (nq.trans sj),vi,gG,ie,by lia,by lia,by lia,by lia,fun Hk sk=>?_⟩
   exact⟨_,rfl,_,rfl,w,x,b,u,rfl,(ia.up SJ).up sk,vi.up sk,bG,ie,by lia,by lia,by lia,by lia,fun Hl sl=>⟨rfl,_,rfl,BK (by rw[gd.lets bG ie];simp) ⟨_,rfl,(sj.trans sk).trans sl⟩⟩⟩
  rintro σ HH ⟨o9,rfl,vm⟩
  have kF:=nq.trans vm
  have SH:=SC.trans vm
  refine⟨_,rfl,tw,g.pt,rfl,kC kF,ng,by lia,fun dw HI sI vI=>?_⟩
  have vII:=vI.up Dh
  refine⟨_,rfl,HI,tw,g,rfl,AG.refl _,kC (kF.trans sI),gG,by lia,fun w3 g3 HJ0 sJ0 vJ d3 kfJ=>?_⟩
  have e3:g3=g:=Ak.Good.one d3 gg
  rw[e3]at vJ
  have TJ:=Told.of sJ0 vJ kfJ
  have vn:=TJ.val (AG.refl _)
  have sJ:=TJ.s
  generalize FE HI HJ0=HJ at vn sJ⊢
  refine⟨_,rfl,ts,ts,by rw[<-dW];exact vn,by rw[<-dW];exact vII.up sJ,by rw[<-dW];exact eg,by rw[<-dW];lia,_,rfl,As ?_⟩
  have vo:=sI.trans sJ
  have SJ:=SH.trans vo
  refine⟨_,rfl,_,rfl,Az,fun pU hpU=>?_⟩
  have tU:=AG.new (o:=.tup [w,O]) hpU
  have fU:upd HJ pU (.tup [w,O]) pU=some (.tup [w,O]):=AE
  generalize upd HJ pU (.tup [w,O])=HK at tU fU⊢
  have SK:=SJ.trans tU
  refine⟨_,rfl,[b.pt,a2.pt],[b.pt,a2.pt],.tup (Bj.of fU) (.cons (ia.up SK) (.cons (ib.up SK) .nil)),vY.up SK,eK,by lia,_,rfl,As ?_⟩
  have FC:=Pt.PY g.pt
  have psz:=Ak.Sk g gG
  have sHK:=vo.trans tU
  refine⟨_,rfl,nw HF kA,tw,g.pt,0,rfl,TG.k,vG,Pt.Kg _ ng,by lia,by lia,Wn.of (pG.up (kF.trans sHK)) _,fun HL wn fr=>?_⟩
  have vp:AG HF HL:=TG.out fr SK fun b x e z=>by rw[e]at z;cases z
  have dL:AG (nw HH HI) HL:=TG.past (by rw[<-kB];exact kF) fr (Dh.trans (sJ.trans tU))
  refine⟨_,rfl,HL,dw,g,rfl,AG.refl _,vI.up dL,gG,by lia,fun w4 g4 vq sM0 vM d4 kfM=>?_⟩
  have e4:g4=g:=Ak.Good.one d4 gg
  rw[e4]at vM
  have TM:=Told.of sM0 vM kfM
  have pM:=TM.p
  have sM:=TM.s
  generalize FE HL vq=HM at pM sM⊢
  refine⟨nw HL vq,w4,g.pt,0,rfl,TM.k,vM,Pt.Kg _ ng,by lia,by lia,Wn.of pM _,fun HN wn2 vr=>?_⟩
  have ig:AG HF HN:=TM.out vr (vp.trans sM) fun b x e z=>by rw[vp _ _ e]at z;cases z
  have dN:AG (nw HH HI) HN:=TM.out vr (dL.trans sM) fun b x e z=>by rw[dL _ _ e]at z;cases z
  have vv:∀b,g.pt≠.bl b:=fun b z=>by rw[dW]at z;cases z
  have nbo:∀b,og.pt≠.bl b:=fun b z=>by rw[kD]at z;cases z
  refine⟨_,rfl,HN,w,b,rfl,AG.refl _,ia.up ig,bG,by lia,fun w5 g5 HO0 sO0 vO d5 kfO=>?_⟩
  have e5:g5=g:=Ak.Good.one d5 gd
  rw[e5]at vO
  have TO:=Told.of sO0 vO kfO
  have vz:=TO.val (AG.refl _)
  have sO:=TO.s
  generalize FE HN HO0=HO at vz sO⊢
  refine⟨_,rfl,g.pt,g.pt,vz,(vI.up dN).up sO,vv,.inr eg,by lia,_,rfl,Bl eg ?_⟩
  refine⟨_,rfl,HO,O,a2,rfl,AG.refl _,(ib.up ig).up sO,cG,by lia,fun w6 g6 HP0 sP0 vP d6 kfP=>?_⟩
  have e6:g6=og:=Ak.Good.one d6 od
  rw[e6]at vP
  have TP:=Told.of sP0 vP kfP
  have v_:=TP.val (AG.refl _)
  have sP:=sO.trans TP.s
  generalize FE HO HP0=HP at v_ sP⊢
  refine⟨_,rfl,og.pt,g.pt,v_,(vI.up dN).up sP,nbo,.inr eO,by lia,_,rfl,Bl eO ?_⟩
  refine⟨_,rfl,HP,dw,g,rfl,AG.refl _,(vI.up dN).up sP,gG,by lia,fun w7 g7 HQ0 sQ0 vQ d7 kfQ=>?_⟩
  have e7:g7=g:=Ak.Good.one d7 gg
  rw[e7]at vQ
  have TQ:=Told.of sQ0 vQ kfQ
  have wA:=TQ.val (AG.refl _)
  have sQ:=sP.trans TQ.s
  generalize FE HP HQ0=HQ at wA sQ⊢
  refine⟨_,rfl,g.pt,g.pt,wA,(vI.up dN).up sQ,vv,.inr eg,by lia,_,rfl,Bl eg ?_⟩
  refine⟨_,rfl,_,rfl,Az,fun pV hpV=>?_⟩
  have tV:=sQ.trans (AG.new (o:=.tup [w,O]) hpV)
  have fV:upd HQ pV (.tup [w,O]) pV=some (.tup [w,O]):=AE
  generalize upd HQ pV (.tup [w,O])=HR at tV fV⊢
  refine⟨_,rfl,.tup [b.pt,a2.pt],.tup [b.pt,a2.pt],.tup (Bj.of fV) (.cons ((ia.up ig).up tV) (.cons ((ib.up ig).up tV) .nil)),(vY.up ig).up tV,(fun _ z=>nomatch z),.inr eK,by lia,?_⟩
  rw[eK]
  exact q _
end
end Cg
namespace Cg
open PySem L2
theorem FD (us:List Value) (h:us.length=1):∃a,us=[a]:=by
 rcases us with _|⟨a,us⟩<;>simp only[List.length_cons,List.length_nil]at h<;>try omega
 rcases us with _|⟨y,us⟩<;>simp only[List.length_cons,List.length_nil]at h<;>try omega
 exact⟨a,rfl⟩
theorem LC (us:List Value) (h:us.length=2):∃a b,us=[a,b]:=by
 rcases us with _|⟨a,us⟩<;>simp only[List.length_cons,List.length_nil]at h<;>try omega
 rcases us with _|⟨b,us⟩<;>simp only[List.length_cons,List.length_nil]at h<;>try omega
 rcases us with _|⟨y,us⟩<;>simp only[List.length_cons,List.length_nil]at h<;>try omega
 exact⟨a,b,rfl⟩
theorem LD (us:List Value) (h:us.length=3):∃a b c,us=[a,b,c]:=by
 rcases us with _|⟨a,us⟩<;>simp only[List.length_cons,List.length_nil]at h<;>try omega
 rcases us with _|⟨b,us⟩<;>simp only[List.length_cons,List.length_nil]at h<;>try omega
 rcases us with _|⟨c,us⟩<;>simp only[List.length_cons,List.length_nil]at h<;>try omega
 rcases us with _|⟨y,us⟩<;>simp only[List.length_cons,List.length_nil]at h<;>try omega
 exact⟨a,b,c,rfl⟩
theorem ij (us:List Value) (h:us.length=4):∃a b c d,us=[a,b,c,d]:=by
 rcases us with _|⟨a,us⟩<;>simp only[List.length_cons,List.length_nil]at h<;>try omega
 rcases us with _|⟨b,us⟩<;>simp only[List.length_cons,List.length_nil]at h<;>try omega
 rcases us with _|⟨c,us⟩<;>simp only[List.length_cons,List.length_nil]at h<;>try omega
 rcases us with _|⟨d,us⟩<;>simp only[List.length_cons,List.length_nil]at h<;>try omega
 rcases us with _|⟨y,us⟩<;>simp only[List.length_cons,List.length_nil]at h<;>try omega
 exact⟨a,b,c,d,rfl⟩
theorem all_mk {l:PySem.W.OpenLaw} {w:World} {K:ACh} {h:Heap} {mg:Str->Option Value} {fa f1 f2 f3 f4 f5 f6 f7 f8 f9 f10 f11 R f13 f14 f15 f16 f17 f18 f19 f20 f21 f22 f23 f24 f25 f26 f27 f28:Addr} (X:K.In h) (G:h.Ns mainGlobals mg) (hfa:mg "law"=some (.ref fa))
  {od1 an1 kE an2 od3 an3 od4 an4 od5 an5 od6 an6 od7 an7 od8 an8 od9 an9 nr nu nv ny n_ oA oB oC oE oF oH oI oJ oK oM oN oO oP oQ oR oS oU oV oW oX oY oZ oe oh oj om oo oq oy oz o_ pA U:Option Addr} {sl1 iX sl3 sl4 sl5 sl6 sl7 sl8 sl9 pC pE pF pH pJ pK pN pO pP pQ pR pW pX pY pZ pd pf ph pj:Array (Option Value)} {oc1 kV1 ie pm1 wB ct1 oc2 kV2 cz pm2 wC ct2 oc3 kV3 dc3 pm3 wD ct3 oc4 kV4 dc4 pm4 wF ct4 oc5 kV5 dc5 pm5 wG ct5 oc6 kV6 dc6 iW wH ct6 oc7 kV7 dc7 pm7 wI ct7 oc8 kV8 dc8 pm8 wJ ct8 oc9 kV9 dc9 pm9 wL ct9 pq pw pz p_ V qA qB qC qD qE Y qF qG qH qI qJ Z qK qL qM qN qO ip qP qQ qR qS qT iq qU qV qW qX qY ir qZ qa qb qc qd iu qe qf qg qh qi iw qj qk ql qm qo iy qp qq qr qt qu iz qv qw qx qy qz i_ q_ rA rB rC rD i' rE rF rG rH rJ jA rK rL rM rN rO jB rP rQ rR rS rT jC rV rW rX rY rZ jD rg rh rj rk rm jE ro rq rx ry rz jF r_ sE jG jH jI H jJ:Value}
  (a1:PySem.W.nsIn K mainGlobals "gathered"=some (some (.ref f1))) (l1:K.lookup f1=some ⟨oc1,od1,.func (PySem.W.fnOf "gathered" "gathered" (Ar DO) (An DO) (AL DO) .none kV1 ie pm1 an1 wB ct1),sl1⟩) (c1:PySem.W.codeIn K wB "gathered"=true) (k1:PySem.W.keepIn K (.ref f1)=true)
  (a2:PySem.W.nsIn K mainGlobals "folded"=some (some (.ref f2))) (l2:K.lookup f2=some ⟨oc2,kE,.func (PySem.W.fnOf "folded" "folded" (Ar GC) (An GC) (AL GC) .none kV2 cz pm2 an2 wC ct2),iX⟩) (c2:PySem.W.codeIn K wC "folded"=true) (k2:PySem.W.keepIn K (.ref f2)=true)
  (a3:PySem.W.nsIn K mainGlobals "steps_of"=some (some (.ref f3))) (l3:K.lookup f3=some ⟨oc3,od3,.func (PySem.W.fnOf "steps_of" "steps_of" (Ar Dj) (An Dj) (AL Dj) .none kV3 dc3 pm3 an3 wD ct3),sl3⟩) (c3:PySem.W.codeIn K wD "steps_of"=true) (k3:PySem.W.keepIn K (.ref f3)=true)
  (a4:PySem.W.nsIn K mainGlobals "inner_of"=some (some (.ref f4))) (l4:K.lookup f4=some ⟨oc4,od4,.func (PySem.W.fnOf "inner_of" "inner_of" (Ar EZ) (An EZ) (AL EZ) .none kV4 dc4 pm4 an4 wF ct4),sl4⟩) (c4:PySem.W.codeIn K wF "inner_of"=true) (k4:PySem.W.keepIn K (.ref f4)=true)
  (a5:PySem.W.nsIn K mainGlobals "outer_copy"=some (some (.ref f5))) (l5:K.lookup f5=some ⟨oc5,od5,.func (PySem.W.fnOf "outer_copy" "outer_copy" (Ar Cw) (An Cw) (AL Cw) .none kV5 dc5 pm5 an5 wG ct5),sl5⟩) (c5:PySem.W.codeIn K wG "outer_copy"=true) (k5:PySem.W.keepIn K (.ref f5)=true)
  (a6:PySem.W.nsIn K mainGlobals "copy_of"=some (some (.ref f6))) (l6:K.lookup f6=some ⟨oc6,od6,.func (PySem.W.fnOf "copy_of" "copy_of" (Ar GD) (An GD) (AL GD) .none kV6 dc6 iW an6 wH ct6),sl6⟩) (c6:PySem.W.codeIn K wH "copy_of"=true) (k6:PySem.W.keepIn K (.ref f6)=true)
  (a7:PySem.W.nsIn K mainGlobals "holder_in"=some (some (.ref f7))) (l7:K.lookup f7=some ⟨oc7,od7,.func (PySem.W.fnOf "holder_in" "holder_in" (Ar DP) (An DP) (AL DP) .none kV7 dc7 pm7 an7 wI ct7),sl7⟩) (c7:PySem.W.codeIn K wI "holder_in"=true) (k7:PySem.W.keepIn K (.ref f7)=true)
  (a8:PySem.W.nsIn K mainGlobals "inner_nodes"=some (some (.ref f8))) (l8:K.lookup f8=some ⟨oc8,od8,.func (PySem.W.fnOf "inner_nodes" "inner_nodes" (Ar Cf) (An Cf) (AL Cf) .none kV8 dc8 pm8 an8 wJ ct8),sl8⟩) (c8:PySem.W.codeIn K wJ "inner_nodes"=true) (k8:PySem.W.keepIn K (.ref f8)=true)
  (a9:PySem.W.nsIn K mainGlobals "filled"=some (some (.ref f9))) (l9:K.lookup f9=some ⟨oc9,od9,.func (PySem.W.fnOf "filled" "filled" (Ar GF) (An GF) (AL GF) .none kV9 dc9 pm9 an9 wL ct9),sl9⟩) (c9:PySem.W.codeIn K wL "filled"=true) (k9:PySem.W.keepIn K (.ref f9)=true)
  (a10:PySem.W.nsIn K mainGlobals "inner_just"=some (some (.ref f10))) (l10:K.lookup f10=some ⟨pq,nr,.func (PySem.W.fnOf "inner_just" "inner_just" (Ar Cy) (An Cy) (AL Cy) .none pw pz p_ nu V qA),pC⟩) (c10:PySem.W.codeIn K V "inner_just"=true) (k10:PySem.W.keepIn K (.ref f10)=true)
  (a11:PySem.W.nsIn K mainGlobals "good_form"=some (some (.ref f11))) (l11:K.lookup f11=some ⟨qB,nv,.func (PySem.W.fnOf "good_form" "good_form" (Ar DQ) (An DQ) (AL DQ) .none qC qD qE ny Y qF),pE⟩) (c11:PySem.W.codeIn K Y "good_form"=true) (k11:PySem.W.keepIn K (.ref f11)=true)
  (a12:PySem.W.nsIn K mainGlobals "good_part"=some (some (.ref R))) (l12:K.lookup R=some ⟨qG,n_,.func (PySem.W.fnOf "good_part" "good_part" (Ar DR) (An DR) (AL DR) .none qH qI qJ oA Z qK),pF⟩) (c12:PySem.W.codeIn K Z "good_part"=true) (k12:PySem.W.keepIn K (.ref R)=true)
  (a13:PySem.W.nsIn K mainGlobals "good_row"=some (some (.ref f13))) (l13:K.lookup f13=some ⟨qL,oB,.func (PySem.W.fnOf "good_row" "good_row" (Ar Ea) (An Ea) (AL Ea) .none qM qN qO oC ip qP),pH⟩) (c13:PySem.W.codeIn K ip "good_row"=true) (k13:PySem.W.keepIn K (.ref f13)=true)
  (a14:PySem.W.nsIn K mainGlobals "good_table"=some (some (.ref f14))) (l14:K.lookup f14=some ⟨qQ,oE,.func (PySem.W.fnOf "good_table" "good_table" (Ar Cz) (An Cz) (AL Cz) .none qR qS qT oF iq qU),pJ⟩) (c14:PySem.W.codeIn K iq "good_table"=true) (k14:PySem.W.keepIn K (.ref f14)=true)
  (a15:PySem.W.nsIn K mainGlobals "_law_cell"=some (some (.ref f15))) (l15:K.lookup f15=some ⟨qV,oH,.func (PySem.W.fnOf "_law_cell" "_law_cell" (Ar MO) (An MO) (AL MO) .none qW qX qY oI ir qZ),pK⟩) (c15:PySem.W.codeIn K ir "_law_cell"=true) (k15:PySem.W.keepIn K (.ref f15)=true)
  (a16:PySem.W.nsIn K mainGlobals "_law_mix"=some (some (.ref f16))) (l16:K.lookup f16=some ⟨qa,oJ,.func (PySem.W.fnOf "_law_mix" "_law_mix" (Ar RY) (An RY) (AL RY) .none qb qc qd oK iu qe),pN⟩) (c16:PySem.W.codeIn K iu "_law_mix"=true) (k16:PySem.W.keepIn K (.ref f16)=true)
  (a17:PySem.W.nsIn K mainGlobals "_law_names"=some (some (.ref f17))) (l17:K.lookup f17=some ⟨qf,oM,.func (PySem.W.fnOf "_law_names" "_law_names" (Ar IW) (An IW) (AL IW) .none qg qh qi oN iw qj),pO⟩) (c17:PySem.W.codeIn K iw "_law_names"=true) (k17:PySem.W.keepIn K (.ref f17)=true)
  (a18:PySem.W.nsIn K mainGlobals "_law_doc"=some (some (.ref f18))) (l18:K.lookup f18=some ⟨qk,oO,.func (PySem.W.fnOf "_law_doc" "_law_doc" (Ar UW) (An UW) (AL UW) .none ql qm qo oP iy qp),pP⟩) (c18:PySem.W.codeIn K iy "_law_doc"=true) (k18:PySem.W.keepIn K (.ref f18)=true)
  (a19:PySem.W.nsIn K mainGlobals "_law_copy"=some (some (.ref f19))) (l19:K.lookup f19=some ⟨qq,oQ,.func (PySem.W.fnOf "_law_copy" "_law_copy" (Ar Ko) (An Ko) (AL Ko) .none qr qt qu oR iz qv),pQ⟩) (c19:PySem.W.codeIn K iz "_law_copy"=true) (k19:PySem.W.keepIn K (.ref f19)=true)
  (a20:PySem.W.nsIn K mainGlobals "_law_ruin"=some (some (.ref f20))) (l20:K.lookup f20=some ⟨qw,oS,.func (PySem.W.fnOf "_law_ruin" "_law_ruin" (Ar Kq) (An Kq) (AL Kq) .none qx qy qz oU i_ q_),pR⟩) (c20:PySem.W.codeIn K i_ "_law_ruin"=true) (k20:PySem.W.keepIn K (.ref f20)=true)
  (a21:PySem.W.nsIn K mainGlobals "_law_asks"=some (some (.ref f21))) (l21:K.lookup f21=some ⟨rA,oV,.func (PySem.W.fnOf "_law_asks" "_law_asks" (Ar Kr) (An Kr) (AL Kr) .none rB rC rD oW i' rE),pW⟩) (c21:PySem.W.codeIn K i' "_law_asks"=true) (k21:PySem.W.keepIn K (.ref f21)=true)
  (a22:PySem.W.nsIn K mainGlobals "_law_fit"=some (some (.ref f22))) (l22:K.lookup f22=some ⟨rF,oX,.func (PySem.W.fnOf "_law_fit" "_law_fit" (Ar RZ) (An RZ) (AL RZ) .none rG rH rJ oY jA rK),pX⟩) (c22:PySem.W.codeIn K jA "_law_fit"=true) (k22:PySem.W.keepIn K (.ref f22)=true)
  (a23:PySem.W.nsIn K mainGlobals "_law_bent"=some (some (.ref f23))) (l23:K.lookup f23=some ⟨rL,oZ,.func (PySem.W.fnOf "_law_bent" "_law_bent" (Ar Ks) (An Ks) (AL Ks) .none rM rN rO oe jB rP),pY⟩) (c23:PySem.W.codeIn K jB "_law_bent"=true) (k23:PySem.W.keepIn K (.ref f23)=true)
  (a24:PySem.W.nsIn K mainGlobals "_law_lets"=some (some (.ref f24))) (l24:K.lookup f24=some ⟨rQ,oh,.func (PySem.W.fnOf "_law_lets" "_law_lets" (Ar Kt) (An Kt) (AL Kt) .none rR rS rT oj jC rV),pZ⟩) (c24:PySem.W.codeIn K jC "_law_lets"=true) (k24:PySem.W.keepIn K (.ref f24)=true)
  (a25:PySem.W.nsIn K mainGlobals "_law_is_good"=some (some (.ref f25))) (l25:K.lookup f25=some ⟨rW,om,.func (PySem.W.fnOf "_law_is_good" "_law_is_good" (Ar Ex) (An Ex) (AL Ex) .none rX rY rZ oo jD rg),pd⟩) (c25:PySem.W.codeIn K jD "_law_is_good"=true) (k25:PySem.W.keepIn K (.ref f25)=true)
  (a26:PySem.W.nsIn K mainGlobals "_law_spread"=some (some (.ref f26))) (l26:K.lookup f26=some ⟨rh,oq,.func (PySem.W.fnOf "_law_spread" "_law_spread" (Ar Ey) (An Ey) (AL Ey) .none rj rk rm oy jE ro),pf⟩) (c26:PySem.W.codeIn K jE "_law_spread"=true) (k26:PySem.W.keepIn K (.ref f26)=true)
  (a27:PySem.W.nsIn K mainGlobals "_law_large"=some (some (.ref f27))) (l27:K.lookup f27=some ⟨rq,oz,.func (PySem.W.fnOf "_law_large" "_law_large" (Ar IX) (An IX) (AL IX) .none rx ry rz o_ jF r_),ph⟩) (c27:PySem.W.codeIn K jF "_law_large"=true) (k27:PySem.W.keepIn K (.ref f27)=true)
  (a28:PySem.W.nsIn K mainGlobals "law"=some (some (.ref f28))) (l28:K.lookup f28=some ⟨sE,pA,.func (PySem.W.fnOf "law" "law" (Ar Na) (An Na) (AL Na) .none jG jH jI U H jJ),pj⟩) (c28:PySem.W.codeIn K H "law"=true) (k28:PySem.W.keepIn K (.ref f28)=true)
  (z1:PySem.W.nsIn K mainGlobals "isinstance"=some none)
  (z2:PySem.W.nsIn K mainGlobals "int"=some none)
  (z3:PySem.W.nsIn K mainGlobals "bool"=some none)
  (z4:PySem.W.nsIn K mainGlobals "str"=some none)
  (z5:PySem.W.nsIn K mainGlobals "list"=some none)
  (z6:PySem.W.nsIn K mainGlobals "dict"=some none)
  (z7:PySem.W.nsIn K mainGlobals "tuple"=some none)
  (z8:PySem.W.nsIn K mainGlobals "len"=some none)
  (z9:PySem.W.nsIn K mainGlobals "range"=some none)
  (z10:PySem.W.nsIn K mainGlobals "max"=some none)
  (z11:PySem.W.nsIn K mainGlobals "min"=some none)
  (z12:PySem.W.nsIn K mainGlobals "sorted"=some none)
  (z13:PySem.W.nsIn K mainGlobals "all"=some none)
  (z14:PySem.W.nsIn K mainGlobals "any"=some none)
  (z15:PySem.W.nsIn K mainGlobals "reversed"=some none)
  (z16:PySem.W.nsIn K mainGlobals "ValueError"=some none)
  (z17:PySem.W.nsIn K mainGlobals "sum"=some none)
  {aA:Addr}
  (zZ:PySem.W.nsIn K mainGlobals "zip"=some none)
  (dX:PySem.W.nsIn K mainGlobals "set"=some none)
  (eA:PySem.W.nsIn K mainGlobals "ANY"=some (some (.ref aA)))
  (hA:Yd K aA ["any"]=true)
  :∃fd:FuncData,(∀(s:Shared) (v:Value),BindsTo s fd ⟨[v],[]⟩ [("_law_script",v)])/\∀base:Heap,K.In base->base.Ns mainGlobals mg->BX l.prog w K mg base DH 60 fa fd ["_law_script"] (OX K):=by
 haveI:BA K:=⟨trivial⟩
 have e:=hfa.symm.trans (PySem.W.mg_of X G a28)
 cases e
 have T:Txt mg:=⟨PySem.W.mg_none_of X G z1,PySem.W.mg_none_of X G z2,PySem.W.mg_none_of X G z3,PySem.W.mg_none_of X G z4,PySem.W.mg_none_of X G z5,PySem.W.mg_none_of X G z6,PySem.W.mg_none_of X G z7,PySem.W.mg_none_of X G z8,PySem.W.mg_none_of X G z9,PySem.W.mg_none_of X G z10,PySem.W.mg_none_of X G z11,PySem.W.mg_none_of X G z12,PySem.W.mg_none_of X G z13,PySem.W.mg_none_of X G z14,PySem.W.mg_none_of X G z15,PySem.W.mg_none_of X G z16,PySem.W.mg_none_of X G z17⟩
 have F1:=BY (st:=DO) l1 c1 k1
 have b1:=F1.binds (ps:=["root","inner"]) fun _ _ _ _ _ _ a b=>by obtain⟨g,z,rfl⟩:=LC a b;rfl
 have m1:=PySem.W.mg_of X G a1
 have F2:=BY (st:=GC) l2 c2 k2
 have b2:=F2.binds (ps:=["root","inner","join"]) fun _ _ _ _ _ _ a b=>by obtain⟨g,z,x2,rfl⟩:=LD a b;rfl
 have m2:=PySem.W.mg_of X G a2
 have F3:=BY (st:=Dj) l3 c3 k3
 have b3:=F3.binds (ps:=["doc"]) fun _ _ _ _ _ _ a b=>by obtain⟨g,rfl⟩:=FD a b;rfl
 have m3:=PySem.W.mg_of X G a3
 have F4:=BY (st:=EZ) l4 c4 k4
 have b4:=F4.binds (ps:=["doc"]) fun _ _ _ _ _ _ a b=>by obtain⟨g,rfl⟩:=FD a b;rfl
 have m4:=PySem.W.mg_of X G a4
 have F5:=BY (st:=Cw) l5 c5 k5
 have b5:=F5.binds (ps:=["doc"]) fun _ _ _ _ _ _ a b=>by obtain⟨g,rfl⟩:=FD a b;rfl
 have m5:=PySem.W.mg_of X G a5
 have F6:=BY (st:=GD) l6 c6 k6
 have b6:=F6.binds (ps:=["doc"]) fun _ _ _ _ _ _ a b=>by obtain⟨g,rfl⟩:=FD a b;rfl
 have m6:=PySem.W.mg_of X G a6
 have F7:=BY (st:=DP) l7 c7 k7
 have b7:=F7.binds (ps:=["node"]) fun _ _ _ _ _ _ a b=>by obtain⟨g,rfl⟩:=FD a b;rfl
 have m7:=PySem.W.mg_of X G a7
 have F8:=BY (st:=Cf) l8 c8 k8
 have b8:=F8.binds (ps:=["node"]) fun _ _ _ _ _ _ a b=>by obtain⟨g,rfl⟩:=FD a b;rfl
 have m8:=PySem.W.mg_of X G a8
 have F9:=BY (st:=GF) l9 c9 k9
 have b9:=F9.binds (ps:=["holder","told"]) fun _ _ _ _ _ _ a b=>by obtain⟨g,z,rfl⟩:=LC a b;rfl
 have m9:=PySem.W.mg_of X G a9
 have sH:=BY (st:=Cy) l10 c10 k10
 have b10:=sH.binds (ps:=["holder"]) fun _ _ _ _ _ _ a b=>by obtain⟨g,rfl⟩:=FD a b;rfl
 have m10:=PySem.W.mg_of X G a10
 have sN:=BY (st:=DQ) l11 c11 k11
 have b11:=sN.binds (ps:=["asks"]) fun _ _ _ _ _ _ a b=>by obtain⟨g,rfl⟩:=FD a b;rfl
 have m11:=PySem.W.mg_of X G a11
 have sR:=BY (st:=DR) l12 c12 k12
 have b12:=sR.binds (ps:=["asks","told"]) fun _ _ _ _ _ _ a b=>by obtain⟨g,z,rfl⟩:=LC a b;rfl
 have m12:=PySem.W.mg_of X G a12
 have sS:=BY (st:=Ea) l13 c13 k13
 have b13:=sS.binds (ps:=["cells","more"]) fun _ _ _ _ _ _ a b=>by obtain⟨g,z,rfl⟩:=LC a b;rfl
 have m13:=PySem.W.mg_of X G a13
 have sT:=BY (st:=Cz) l14 c14 k14
 have b14:=sT.binds (ps:=["names","lacking","more"]) fun _ _ _ _ _ _ a b=>by obtain⟨g,z,x2,rfl⟩:=LD a b;rfl
 have m14:=PySem.W.mg_of X G a14
 have sU:=BY (st:=MO) l15 c15 k15
 have b15:=sU.binds (ps:=["_law_script","_law_k"]) fun _ _ _ _ _ _ a b=>by obtain⟨g,z,rfl⟩:=LC a b;rfl
 have m15:=PySem.W.mg_of X G a15
 have sV:=BY (st:=RY) l16 c16 k16
 have b16:=sV.binds (ps:=["_law_cell_here","_law_k"]) fun _ _ _ _ _ _ a b=>by obtain⟨g,z,rfl⟩:=LC a b;rfl
 have m16:=PySem.W.mg_of X G a16
 have sW:=BY (st:=IW) l17 c17 k17
 have b17:=sW.binds (ps:=["_law_cell_here"]) fun _ _ _ _ _ _ a b=>by obtain⟨g,rfl⟩:=FD a b;rfl
 have m17:=PySem.W.mg_of X G a17
 have sX:=BY (st:=UW) l18 c18 k18
 have b18:=sX.binds (ps:=["_law_cell_here","_law_k","_law_names_here"]) fun _ _ _ _ _ _ a b=>by obtain⟨g,z,x2,rfl⟩:=LD a b;rfl
 have m18:=PySem.W.mg_of X G a18
 have r:=BY (st:=Ko) l19 c19 k19
 have A:=r.binds (ps:=["_law_thing"]) fun _ _ _ _ _ _ a b=>by obtain⟨g,rfl⟩:=FD a b;rfl
 have B:=PySem.W.mg_of X G a19
 have sY:=BY (st:=Kq) l20 c20 k20
 have b20:=sY.binds (ps:=["_law_thing"]) fun _ _ _ _ _ _ a b=>by obtain⟨g,rfl⟩:=FD a b;rfl
 have m20:=PySem.W.mg_of X G a20
 have sZ:=BY (st:=Kr) l21 c21 k21
 have b21:=sZ.binds (ps:=["_law_cells","_law_deep","_law_names_here"]) fun _ _ _ _ _ _ a b=>by obtain⟨g,z,x2,rfl⟩:=LD a b;rfl
 have m21:=PySem.W.mg_of X G a21
 have sd:=BY (st:=RZ) l22 c22 k22
 have b22:=sd.binds (ps:=["_law_asks_here","_law_cells","_law_names_here"]) fun _ _ _ _ _ _ a b=>by obtain⟨g,z,x2,rfl⟩:=LD a b;rfl
 have m22:=PySem.W.mg_of X G a22
 have sf:=BY (st:=Ks) l23 c23 k23
 have b23:=sf.binds (ps:=["_law_doc_here","_law_cell_here","_law_deep","_law_names_here"]) fun _ _ _ _ _ _ a b=>by obtain⟨g,z,x2,x3,rfl⟩:=ij a b;rfl
 have m23:=PySem.W.mg_of X G a23
 have sg:=BY (st:=Kt) l24 c24 k24
 have b24:=sg.binds (ps:=["_law_asks_here","_law_doc_here"]) fun _ _ _ _ _ _ a b=>by obtain⟨g,z,rfl⟩:=LC a b;rfl
 have m24:=PySem.W.mg_of X G a24
 have sh:=BY (st:=Ex) l25 c25 k25
 have b25:=sh.binds (ps:=["_law_asks_here"]) fun _ _ _ _ _ _ a b=>by obtain⟨g,rfl⟩:=FD a b;rfl
 have m25:=PySem.W.mg_of X G a25
 have sq:=BY (st:=Ey) l26 c26 k26
 have b26:=sq.binds (ps:=["_law_asks_here","_law_cells","_law_names_here"]) fun _ _ _ _ _ _ a b=>by obtain⟨g,z,x2,rfl⟩:=LD a b;rfl
 have m26:=PySem.W.mg_of X G a26
 have su:=BY (st:=IX) l27 c27 k27
 have b27:=su.binds (ps:=["_law_asks_here","_law_cell_here","_law_names_here"]) fun _ _ _ _ _ _ a b=>by obtain⟨g,z,x2,rfl⟩:=LD a b;rfl
 have m27:=PySem.W.mg_of X G a27
 have F28:=BY (st:=Na) l28 c28 k28
 have sy:=PySem.W.mg_none_of X G zZ
 have dC:=PySem.W.mg_none_of X G dX
 have mA:=PySem.W.mg_of X G eA
 refine⟨PySem.W.fnOf "law" "law" (Ar Na) (An Na) (AL Na) .none jG jH jI U H jJ,fun s v=>.of_eq rfl,fun base _ _=>?_⟩
 have j:Df l.prog w K mg base "steps_of" ["doc"] 1 FV:=Df.mk' F3 b3 m3 (Kv F3 T)
 have d:Df l.prog w K mg base "inner_of" ["doc"] 2 Gx:=Df.mk' F4 b4 m4 (Ra F4 T j)
 have i:Df l.prog w K mg base "holder_in" ["node"] 1 ND:=Df.mk' F7 b7 m7 (Pk F7 T)
 have p:Df l.prog w K mg base "gathered" ["root","inner"] 4 (NF f8):=Df.mk' F1 b1 m1 (Pg F1 T F8.kp b8 (GW F8 T d i))
 have t:Df l.prog w K mg base "steps_of" ["doc"] 1 JQ:=Df.mk' F3 b3 m3 (Nb F3 T)
 have n:Df l.prog w K mg base "outer_copy" ["doc"] 1 Mw:=Df.mk' F5 b5 m5 (Nc F5 T)
 have C:Df l.prog w K mg base "copy_of" ["doc"] 2 Gu:=Df.mk' F6 b6 m6 (UY F6 T t n)
 have m:Df l.prog w K mg base "filled" ["holder","told"] 2 HY:=Df.mk' F9 b9 m9 (Ua F9 T j sy)
 have f:Df l.prog w K mg base "inner_just" ["holder"] 3 Ha:=Df.mk' sH b10 m10 (Nf sH T d m)
 have u:Df l.prog w K mg base "good_row" ["cells","more"] 4 IU:=Df.mk' sS b13 m13 (Rf sS T f)
 have k:Df l.prog w K mg base "good_table" ["names","lacking","more"] 4 IV:=Df.mk' sT b14 m14 (Ng sT T f)
 have D:Df l.prog w K mg base "folded" ["root","inner","join"] 6 (NG f8 R):=Df.mk' F2 b2 m2 (UX F2 T p F8.kp b8 (GW F8 T d i) sR.kp b12 (Pn sR T C m u k mA hA))
 have q:Df l.prog w K mg base "good_form" ["asks"] 7 NH:=Df.mk' sN b11 m11 (Pm sN T D m8 m12)
 have I:Df l.prog w K mg base "_law_cell" ["_law_script","_law_k"] 1 (Qp K):=Df.mk' sU b15 m15 (ZH sU T)
 have c:Df l.prog w K mg base "_law_mix" ["_law_cell_here","_law_k"] 1 Dr:=Df.mk' sV b16 m16 (ZI sV T)
 have E:Df l.prog w K mg base "_law_names" ["_law_cell_here"] 2 KI:=Df.mk' sW b17 m17 (XO sW T c)
 have J:Df l.prog w K mg base "_law_copy" ["_law_thing"] 50 (Cc 50):=Df.mk' r A B (Hs r T A B 50)
 have L:Df l.prog w K mg base "_law_ruin" ["_law_thing"] 50 (Hq 50):=Df.mk' sY b20 m20 (Po sY T b20 m20 50)
 have o:Df l.prog w K mg base "_law_doc" ["_law_cell_here","_law_k","_law_names_here"] 2 FZ:=Df.mk' sX b18 m18 (cm sX T c)
 have M:Df l.prog w K mg base "_law_asks" ["_law_cells","_law_deep","_law_names_here"] 10 (KJ 10):=Df.mk' sZ b21 m21 (Px sZ T b21 m21 c o 10)
 have N:Df l.prog w K mg base "_law_copy" ["_law_thing"] 6 (Cc 6):=Df.mk' r A B (Hs r T A B 6)
 have S:Df l.prog w K mg base "_law_fit" ["_law_asks_here","_law_cells","_law_names_here"] 25 (Ov 25):=Df.mk' sd b22 m22 (Sv sd T b22 m22 c o N 25)
 have O:Df l.prog w K mg base "_law_bent" ["_law_doc_here","_law_cell_here","_law_deep","_law_names_here"] 20 (KL 20):=Df.mk' sf b23 m23 (P' sf T b23 m23 c o 20)
 have P:Df l.prog w K mg base "_law_lets" ["_law_asks_here","_law_doc_here"] 20 (GB 20):=Df.mk' sg b24 m24 (QE sg T b24 m24 20)
 have x:Df l.prog w K mg base "_law_is_good" ["_law_asks_here"] 20 (Fl 20):=Df.mk' sh b25 m25 (LA sh T b25 m25 dC 20)
 have Q:Df l.prog w K mg base "_law_copy" ["_law_thing"] 20 (Cc 20):=Df.mk' r A B (Hs r T A B 20)
 have y:Df l.prog w K mg base "_law_spread" ["_law_asks_here","_law_cells","_law_names_here"] 45 (Fi 45):=Df.mk' sq b26 m26 (LB sq T b26 m26 c Q 45)
 have F:Df l.prog w K mg base "_law_large" ["_law_asks_here","_law_cell_here","_law_names_here"] 2 NC:=Df.mk' su b27 m27 (Xj su T c)
 exact dG F28 T q I E J L M S O P x y F
theorem walk {l:PySem.W.OpenLaw} {q:Program} {loose:List Str} {g:(Str->Option Value)->Heap->Prop} {YP:World->Heap->Prop} {d:DefRec} {K:Params->ACh} (i:l.most=some 63) (b:d.params.defaults=[])
  (j:∀(w:World) (h:Heap),YP w h->(K w.params).In h)
  (F:∀(w:World) (mg:Str->Option Value) (c:Addr) (h:Heap),(K w.params).In h->h.Ns mainGlobals mg->mg d.name=some (.ref c)->
   ∃e:FuncData,(∀(s:Shared) (u:Value),BindsTo s e ⟨[u],[]⟩ [("_law_script",u)])/\∀base:Heap,(K w.params).In base->base.Ns mainGlobals mg->BX l.prog w (K w.params) mg base DH 60 c e ["_law_script"] (OX (K w.params))):
  PySem.W.WalkO q loose g YP l.row.toRowW d [] (fun f vs=>PySem.call f vs):=
 L2.YH (n:=63) (k:=60) (x:="_law_script") (CX:=fun _=>DH) (sp:=fun w=>OX (K w.params)) i (by decide) b ⟨rfl,by decide,by decide,rfl⟩ j F (fun _ _ a m o _ p=>⟨a,m,rfl,p,o,fun _=>rfl⟩) fun _ _ _ _ _ z=>z
theorem walkZ {l:PySem.W.OpenLaw} {q:Program} {loose:List Str} {m:(Str->Option Value)->Heap->Prop} {d:DefRec} {K:Params->ACh} {as:List Addr} {n t:Nat} (e:∀P:Params,as=List.map (fun x=>x.fst) (K P)) (p:l.most=some 63) (g:d.params.defaults=[])
  (F:∀(w:World) (mg:Str->Option Value) (j:Addr) (h:Heap),(K w.params).In h->h.Ns mainGlobals mg->mg d.name=some (.ref j)->
   ∃k:FuncData,(∀(s:Shared) (u:Value),BindsTo s k ⟨[u],[]⟩ [("_law_script",u)])/\∀base:Heap,(K w.params).In base->base.Ns mainGlobals mg->BX l.prog w (K w.params) mg base DH 60 j k ["_law_script"] (OX (K w.params))):
  PySem.W.WalkX q loose m (PySem.W.X.obsZ as) (PySem.W.X.valZ K n t) l.row.toRowW d [] (fun f vs=>PySem.call f vs):=
 fun w b c mg r G y a o v A doc B kV C D E H I J args vals i L M N O Q R=>
  walk (YP:=fun w h=>(K w.params).In h) p g (fun _ _ z=>z) F w b c mg r G ((show(K w.params).In b.heap from(PySem.W.X.z_facts e y).2.1).keeps L.keeps) a o v A doc B kV C D E H I J args vals i M N O Q R
end Cg
def PySem.W.Fast.tw3258446449521439601:=0
def PySem.W.Fast.tw2098032456623120544:=0
def PySem.W.Fast.tw2384051426758191483:=0
def PySem.W.Fast.tw2184284608620665753:=0
def PySem.W.Fast.tw7263924008227087238:=0
def PySem.W.Fast.tw8622831658276586903:=0
def PySem.W.Fast.tw5977046132164867343:=0
def PySem.W.Fast.tw6516026335846911986:=0
def PySem.W.Fast.tw10778912946565324161:=0
def PySem.W.Fast.tw9017346176655047984:=0
def PySem.W.Fast.tw9057107529202882849:=0
def PySem.W.Fast.tw16782258567576141310:=0
def PySem.W.Fast.tw5711996784560420157:=0
def PySem.W.Fast.tw804381418925464852:=0
def PySem.W.Fast.tw1399262285581050107:=0
def PySem.W.Fast.tw2544403397461913416:=0
def PySem.W.Fast.tw9561725365041940390:=0
def PySem.W.Fast.tw181752662247025497:=0
def PySem.W.Fast.tw2105378122604215566:=0
def PySem.W.Fast.tw1425750590713147113:=0
def PySem.W.Fast.tw12218680263684564831:=0
def PySem.W.Fast.tw4035082943151008135:=0
def PySem.W.Fast.tw3596432023886148673:=0
def PySem.W.Fast.tw16616116207413488420:=0
def PySem.W.Fast.tw7538370070982075745:PySem.Program:=PySem.Challenge.pw_patchbough_k42_good_form
theorem PySem.W.Fast.te7538370070982075745:PySem.Challenge.pw_patchbough_k42_good_form=PySem.W.Fast.tw7538370070982075745:=rfl
open PySem PySem.W PyProof.Rows
set_option maxRecDepth 100000 in
set_option maxHeartbeats 0 in
theorem PySem.Challenge.cw_patchbough_k42_good_form_holds : PySem.Challenge.rw_patchbough_k42_good_form.Holds := by
 w_on;o_law;z_head;(case hw=>w_witness2)
 k_fill
 refine Cg.walkZ (l:=PySem.Challenge.rw_patchbough_k42_good_form) (fun _=>rfl) rfl rfl ?F
 case F=>
  intro w c d h b G a
  refine' Cg.all_mk b G a ?a1 ?l1 ?c1 ?k1 ?a2 ?l2 ?c2 ?k2 ?a3 ?l3 ?c3 ?k3 ?a4 ?l4 ?c4 ?k4 ?a5 ?l5 ?c5 ?k5 ?a6 ?l6 ?c6 ?k6 ?a7 ?l7 ?c7 ?k7 ?a8 ?l8 ?c8 ?k8 ?a9 ?l9 ?c9 ?k9 ?a10 ?l10 ?c10 ?k10 ?a11 ?l11 ?c11 ?k11 ?a12 ?l12 ?c12 ?k12 ?a13 ?l13 ?c13 ?k13 ?a14 ?l14 ?c14 ?k14 ?a15 ?l15 ?c15 ?k15 ?a16 ?l16 ?c16 ?k16 ?a17 ?l17 ?c17 ?k17 ?a18 ?l18 ?c18 ?k18 ?a19 ?l19 ?c19 ?k19 ?a20 ?l20 ?c20 ?k20 ?a21 ?l21 ?c21 ?k21 ?a22 ?l22 ?c22 ?k22 ?a23 ?l23 ?c23 ?k23 ?a24 ?l24 ?c24 ?k24 ?a25 ?l25 ?c25 ?k25 ?a26 ?l26 ?c26 ?k26 ?a27 ?l27 ?c27 ?k27 ?a28 ?l28 ?c28 ?k28 ?z1 ?z2 ?z3 ?z4 ?z5 ?z6 ?z7 ?z8 ?z9 ?z10 ?z11 ?z12 ?z13 ?z14 ?z15 ?z16 ?z17 ?zZ ?dX ?eA ?hA
  (case a1=>k_is)
  (case l1=>k_is)
  (case c1=>k_is)
  (case k1=>k_is)
  (case a2=>k_is)
  (case l2=>k_is)
  (case c2=>k_is)
  (case k2=>k_is)
  (case a3=>k_is)
  (case l3=>k_is)
  (case c3=>k_is)
  (case k3=>k_is)
  (case a4=>k_is)
  (case l4=>k_is)
  (case c4=>k_is)
  (case k4=>k_is)
  (case a5=>k_is)
  (case l5=>k_is)
  (case c5=>k_is)
  (case k5=>k_is)
  (case a6=>k_is)
  (case l6=>k_is)
  (case c6=>k_is)
  (case k6=>k_is)
  (case a7=>k_is)
  (case l7=>k_is)
  (case c7=>k_is)
  (case k7=>k_is)
  (case a8=>k_is)
  (case l8=>k_is)
  (case c8=>k_is)
  (case k8=>k_is)
  (case a9=>k_is)
  (case l9=>k_is)
  (case c9=>k_is)
  (case k9=>k_is)
  (case a10=>k_is)
  (case l10=>k_is)
  (case c10=>k_is)
  (case k10=>k_is)
  (case a11=>k_is)
  (case l11=>k_is)
  (case c11=>k_is)
  (case k11=>k_is)
  (case a12=>k_is)
  (case l12=>k_is)
  (case c12=>k_is)
  (case k12=>k_is)
  (case a13=>k_is)
  (case l13=>k_is)
  (case c13=>k_is)
  (case k13=>k_is)
  (case a14=>k_is)
  (case l14=>k_is)
  (case c14=>k_is)
  (case k14=>k_is)
  (case a15=>k_is)
  (case l15=>k_is)
  (case c15=>k_is)
  (case k15=>k_is)
  (case a16=>k_is)
  (case l16=>k_is)
  (case c16=>k_is)
  (case k16=>k_is)
  (case a17=>k_is)
  (case l17=>k_is)
  (case c17=>k_is)
  (case k17=>k_is)
  (case a18=>k_is)
  (case l18=>k_is)
  (case c18=>k_is)
  (case k18=>k_is)
  (case a19=>k_is)
  (case l19=>k_is)
  (case c19=>k_is)
  (case k19=>k_is)
  (case a20=>k_is)
  (case l20=>k_is)
  (case c20=>k_is)
  (case k20=>k_is)
  (case a21=>k_is)
  (case l21=>k_is)
  (case c21=>k_is)
  (case k21=>k_is)
  (case a22=>k_is)
  (case l22=>k_is)
  (case c22=>k_is)
  (case k22=>k_is)
  (case a23=>k_is)
  (case l23=>k_is)
  (case c23=>k_is)
  (case k23=>k_is)
  (case a24=>k_is)
  (case l24=>k_is)
  (case c24=>k_is)
  (case k24=>k_is)
  (case a25=>k_is)
  (case l25=>k_is)
  (case c25=>k_is)
  (case k25=>k_is)
  (case a26=>k_is)
  (case l26=>k_is)
  (case c26=>k_is)
  (case k26=>k_is)
  (case a27=>k_is)
  (case l27=>k_is)
  (case c27=>k_is)
  (case k27=>k_is)
  (case a28=>k_is)
  (case l28=>k_is)
  (case c28=>k_is)
  (case k28=>k_is)
  (case z1=>k_is)
  (case z2=>k_is)
  (case z3=>k_is)
  (case z4=>k_is)
  (case z5=>k_is)
  (case z6=>k_is)
  (case z7=>k_is)
  (case z8=>k_is)
  (case z9=>k_is)
  (case z10=>k_is)
  (case z11=>k_is)
  (case z12=>k_is)
  (case z13=>k_is)
  (case z14=>k_is)
  (case z15=>k_is)
  (case z16=>k_is)
  (case z17=>k_is)
  (case zZ=>k_is)
  (case dX=>k_is)
  (case eA=>k_is)
  (case hA=>kernel_rfl)
#print axioms PySem.Challenge.cw_patchbough_k42_good_form_holds
