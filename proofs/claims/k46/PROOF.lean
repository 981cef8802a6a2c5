import PyProof.Rows.All
import Wide.All
import OpenK.AllK
import Wide.FinOn
import Lean
import PyProof.EqAt
import PyProof.EqKinds
import PyProof.TupleCall
import PyProof.ReprRoads
import PyProof.ReprBulk
import PyProof.ZipIter
import PyProof.P3Eq
import PyProof.Rows.Range3
import PyProof.Rows.SetFrom
import PySem.Challenge.RW_patchbough_k46_asks_at_a_path
set_option Elab.async false
set_option linter.all false
set_option maxRecDepth 100000
set_option maxHeartbeats 40000000
theorem ADr {α:Type _} {l:List α} {i:Nat} (h:i<l.length):l[i]?=some l[i]:=List.getElem?_eq_getElem h
theorem ADs {α:Type _} {l:List α} {i:Nat} {a:α} (h:l[i]?=some a):∃h:i<l.length,l[i]=a:=List.getElem?_eq_some_iff.mp h
theorem ADt {α:Type _} {a b:α} (h:some a=some b):a=b:=Option.some.inj h
theorem ADu {α:Type _} {l:List α} {i:Nat} {a:α} (h:l[i]?=some a):a∈l:=List.mem_of_getElem? h
abbrev ADv:=PySem.W.Frag
namespace L2
open PySem PySem.Spec PyProof.Rows
abbrev Key:=Sum Int Str
def Ir:Key->Value->Bool
 | .inl k,v=>Value.isInt k v
 | .inr x,v=>Value.isStrOf x v
def kU (w:World):Key->Int
 | .inl k=>hashInt k
 | .inr x=>hashStr w x
theorem BR:∀{k:Key} {v:Value},Ir k v=true->(∃i t,k=Sum.inl i/\v=Value.int i t)∨(∃x t,k=Sum.inr x/\v=Value.str x t)
 | .inl i,v,h=>by
  obtain⟨t,e⟩:=Value.isInt_shape (k:=i) (v:=v) h
  exact .inl ⟨i,t,rfl,e⟩
 | .inr x,v,h=>by
  obtain⟨t,e⟩:=Value.isStrOf_shape (x:=x) (v:=v) h
  exact .inr ⟨x,t,rfl,e⟩
theorem SY (i:Int) (t:Tok):Ir (.inl i) (.int i t)=true:=by simp[Ir,Value.isInt]
theorem Sa (x:Str) (t:Tok):Ir (.inr x) (.str x t)=true:=by simp[Ir,Value.isStrOf]
theorem ab (a b:Int):decide ((Sum.inl a:Key)=Sum.inl b)=(a==b):=by
 by_cases e:a=b
 ·subst e;simp
 ·have h:¬(Sum.inl a:Key)=Sum.inl b:=fun q=>e (Sum.inl.inj q)
  rw[decide_eq_false h]
  exact(beq_eq_false_iff_ne.mpr e).symm
theorem af (a b:Str):decide ((Sum.inr a:Key)=Sum.inr b)=decide (a=b):=by
 by_cases e:a=b
 ·subst e;simp
 ·have h:¬(Sum.inr a:Key)=Sum.inr b:=fun q=>e (Sum.inr.inj q)
  rw[decide_eq_false h,decide_eq_false e]
theorem ag (a:Int) (b:Str):decide ((Sum.inl a:Key)=Sum.inr b)=false:=decide_eq_false (fun q=>nomatch q)
theorem ah (a:Str) (b:Int):decide ((Sum.inr a:Key)=Sum.inl b)=false:=decide_eq_false (fun q=>nomatch q)
def An (prog:Program) (w:World):PySem.KeyKind prog w Key where
 is:=Ir
 hash:=kU w
 inj:=fun v a b ha hb=>by
  rcases BR ha with⟨i,t,rfl,rfl⟩|⟨x,t,rfl,rfl⟩
  ·rcases BR hb with⟨j,u,rfl,e⟩|⟨y,u,rfl,e⟩
   ·injection e with e1 _;rw[e1]
   ·exact nomatch e
  ·rcases BR hb with⟨j,u,rfl,e⟩|⟨y,u,rfl,e⟩
   ·exact nomatch e
   ·injection e with e1 _;rw[e1]
 byValue:=fun k v h=>by
  rcases BR h with⟨i,t,rfl,rfl⟩|⟨x,t,rfl,rfl⟩<;>rfl
 pyHash:=fun hv h=>by
  rcases BR hv with⟨i,t,rfl,rfl⟩|⟨x,t,rfl,rfl⟩
  ·exact wpAny_pyHash_int h
  ·exact wpAny_pyHash_str h
 eqBool:=fun hu hv h=>by
  rcases BR hu with⟨i,t,rfl,rfl⟩|⟨x,t,rfl,rfl⟩
  ·rcases BR hv with⟨j,u,rfl,rfl⟩|⟨y,u,rfl,rfl⟩
   ·rw[ab]at h;exact wpAny_eqBool_int h
   ·rw[ag]at h;exact SeqAt.EqAt.int_str i t y u _ _ _ _ h
  ·rcases BR hv with⟨j,u,rfl,rfl⟩|⟨y,u,rfl,rfl⟩
   ·rw[ah]at h;exact SeqAt.EqAt.str_int x t j u _ _ _ _ h
   ·rw[af]at h;exact wpAny_eqBool_str h
 «strs»:=fun k x t v h=>by
  rcases BR h with⟨i,u,rfl,e⟩|⟨y,u,rfl,e⟩
  ·exact nomatch e
  ·injection e with e1 _
   subst e1
   cases v<;>rfl
theorem NM (prog:Program) (w:World) (i:Int) (t:Tok):(An prog w).is (.inl i) (.int i t)=true:=SY i t
theorem NN (prog:Program) (w:World) (x:Str) (t:Tok):(An prog w).is (.inr x) (.str x t)=true:=Sa x t
inductive V where
 |BO|bl (b:Bool)|int (i:Int)|str (x:Str)|NO (b:Array UInt8)|dX (b:UInt64)|ref (a:Addr)|ty (n:String)
 deriving DecidableEq
def RelV:V->Value->Prop
 | .BO,u=>u=Value.none
 | .bl b,u=>u=Value.bool b
 | .int i,u=>∃t,u=Value.int i t
 | .str x,u=>∃t,u=Value.str x t
 | .NO b,u=>∃t,u=Value.bytes b t
 | .dX b,u=>∃t,u=Value.float b t
 | .ref a,u=>u=Value.ref a
 | .ty n,u=>u=Value.type n
abbrev Vals:List V->List Value->Prop:=Paired RelV
theorem Vals.length {xs:List V} {us:List Value} (r:Vals xs us):xs.length=us.length:=Paired.length r
theorem Vals.inv {x:V} {xs:List V} {us:List Value} (r:Vals (x::xs) us):∃u c,us=u::c/\RelV x u/\Vals xs c:=by
 cases r with
 |cons a b=>exact⟨_,_,rfl,a,b⟩
theorem Vals.get {xs:List V} {us:List Value} {i:Nat} {x:V} (r:Vals xs us) (e:xs[i]?=some x):∃u,us[i]?=some u/\RelV x u:=by
 induction r generalizing i with
 |nil=>rw[List.getElem?_nil]at e;exact nomatch e
 |cons a b c=>
  cases i with
  |zero=>exact⟨_,rfl,ADt e▸a⟩
  |succ j=>exact c (i:=j) e
theorem Vals.set {x:V} {u:Value} (r:RelV x u):∀{xs:List V} {us:List Value} (i:Nat),Vals xs us->Vals (xs.set i x) (us.set i u)
 |_,_,_,.nil=>.nil
 |_,_,0,.cons _ t=>.cons r t
 |_,_,i+1,.cons q t=>.cons q (Vals.set r i t)
theorem Vals.append {xs ys:List V} {us ws:List Value} (r:Vals xs us) (s:Vals ys ws):Vals (xs++ys) (us++ws):=by
 induction r with
 |nil=>exact s
 |cons a _ b=>exact .cons a b
theorem Vals.take:∀{xs:List V} {us:List Value} (n:Nat),Vals xs us->Vals (xs.take n) (us.take n)
 |_,_,0,_=>.nil
 |_,_,_+1,.nil=>.nil
 |_,_,n+1,.cons r t=>.cons r (Vals.take n t)
theorem Vals.drop:∀{xs:List V} {us:List Value} (n:Nat),Vals xs us->Vals (xs.drop n) (us.drop n)
 |_,_,0,r=>r
 |_,_,_+1,.nil=>.nil
 |_,_,n+1,.cons _ t=>Vals.drop n t
def IK:Option V->Option Value->Prop
 |some v,some u=>RelV v u
 |none,none=>True
 |_,_=>False
def KV {a:Type}:List (a×V)->List (a×Value)->Prop:=Paired fun(p:a×V) (q:a×Value)=>p.1=q.1/\RelV p.2 q.2
def kV:Key->V
 | .inl i=>.int i
 | .inr x=>.str x
inductive HO where
 |lst (xs:List V)
 |tup (xs:List V)
 |dK (kvs:List (Key×V))|dT (kvs:List (List Key×V))
 |set (S:Int->Bool) (n:Nat)
 |ins (C a:Addr) (fs:List (Str×V))
 |own (x:Addr)
 |xd (fs:List (Str×V))
 |met (f x:Addr)
 |ai (lo b:Int)
 |CK (o:Obj) (u:HO)
 |aj (ps:Array Value)
 |ext (c:Heap->Prop)
abbrev Hp:=Addr->Option HO
def upd (H:Hp) (a:Addr) (o:HO):Hp:=fun b=>if b=a then some o else H b
theorem AE {H:Hp} {a:Addr} {o:HO}:upd H a o a=some o:=by unfold upd;rw[if_pos rfl]
theorem AK {H:Hp} {a b:Addr} {o:HO} (h:b≠a):upd H a o b=H b:=by unfold upd;rw[if_neg h]
theorem Xa {H:Hp} {a:Addr} {o u:HO}:upd (upd H a o) a u=upd H a u:=by
 funext b;unfold upd;split<;>rfl
theorem eK {H:Hp} {a b:Addr} {o u:HO} (h:H a=some o) (h':H b=some u) (d:o≠u):a≠b:=by
 intro e;subst e;rw[h]at h';exact d (ADt h')
theorem Ac {H:Hp} {a b:Addr} {o:HO} (h:H a=some o) (h':H b=none):a≠b:=by
 intro e;subst e;rw[h]at h';cases h'
section
variable(P:Program) (w:World)
def Au (H:Hp) (h:Heap) (a:Addr):HO->Prop
 | .lst xs=>xs.length<=sizeLine/\∃(its:List Value) (n:Nat),Vals xs its/\h.get? a=some {cls:=.type "list",data:=.seq its.toArray n}
 | .tup xs=>xs.length<=sizeLine/\∃its:List Value,Vals xs its/\IsTup h a its.toArray
 | .dK kvs=>kvs.length<=sizeLine/\(a==sysModules)=false/\∃e,KV kvs e/\h.DictOf (An P w) a e
 | .dT kvs=>kvs.length<=sizeLine/\(a==sysModules)=false/\∃xs:List (List Key×Addr×Value),
   Paired (fun(p:List Key×V) (q:List Key×Addr×Value)=>p.1=q.1/\H q.2.1=some (.tup (p.1.map kV))/\RelV p.2 q.2.2) kvs xs/\
   ∃o g k,h.get? a=some o/\o.ExactDict/\o.data=.dict g k/\g.toList=xs.map (entryOfKey (tupleKind (An P w)))/\(xs.map (·.1)).Nodup
 | .set S n=>h.SetOf (intKind P w) a S n
 | .ins C c fs=>H c=some (.own a)/\fs.length<=1000/\c≠a/\h.get? a=some (PySem.W.instObj C c)/\
   ∃b,h.Ns1 c b/\(∀f,IK (fs.lookup f) (b f))/\PySem.Within b (fs.map (·.1))
 | .own _=>∃o,h.get? a=some o
 | .xd fs=>∃b,h.Ns1 a b/\∀f,IK (fs.lookup f) (b f)
 | .ai lo l=>∃t u v,h.get? a=some {cls:=.type "range",data:=.fields #[.int lo t,.int l u,.int 1 v]}
 | .CK o u=>h.get? a=some o/\Au H h a u
 | .aj m=>h.get? a=some {cls:=.none,data:=.fields m}
 | .met f x=>h.get? a=some (PySem.W.methodObj (.ref f) (.ref x))
 | .ext d=>d h/\(∃o,h.get? a=some o)/\∀i j:Heap,d i->(∀o,i.get? a=some o->j.get? a=some o)->d j
def Fj (H:Hp) (h:Heap):Prop:=∀a o,H a=some o->Au P w H h a o
end
section
variable{P:Program} {w:World} {H H':Hp} {h h':Heap} {a:Addr} {o:HO}
theorem Au.lt (x:Au P w H h a o):a<h.objs.size:=by
 cases o with
 |lst b=>obtain⟨_,_,_,_,e⟩:=x;exact Heap.lt_size e
 |tup b=>obtain⟨_,_,_,p⟩:=x;exact p.lt
 |dK kvs=>obtain⟨_,_,_,_,o,_,_,e,_⟩:=x;exact Heap.lt_size e
 |dT kvs=>obtain⟨_,_,_,_,o,_,_,e,_⟩:=x;exact Heap.lt_size e
 |set S n=>obtain⟨o,_,_,_,e,_⟩:=x;exact Heap.lt_size e
 |ins C c fs=>obtain⟨_,_,_,e,_⟩:=x;exact Heap.lt_size e
 |own y=>obtain⟨_,e⟩:=x;exact Heap.lt_size e
 |xd fs=>obtain⟨_,⟨_,_,_,e,_⟩,_⟩:=x;exact Heap.lt_size e
 |ai lo d=>obtain⟨_,_,_,e⟩:=x;exact Heap.lt_size e
 |CK g u=>obtain⟨e,_⟩:=x;exact Heap.lt_size e
 |aj i=>exact Heap.lt_size (show h.get? a=some _ from x)
 |met f y=>exact Heap.lt_size (show h.get? a=some _ from x)
 |ext j=>obtain⟨_,⟨_,e⟩,_⟩:=x;exact Heap.lt_size e
theorem Paired.eM {d e:Type} {F G:d->e->Prop} {c:List d} {l₂:List e} (r:Paired F c l₂) (f:∀a b,F a b->G a b):Paired G c l₂:=by
 induction r with
 |nil=>exact .nil
 |cons a _ g=>exact .cons (f _ _ a) g
theorem Au.Pk (x:Au P w H h a o) (k:∀b u,(b=a∨H b=some (.own a))->h.get? b=some u->h'.get? b=some u)
  (B:∀b,H b=some (.own a)->H' b=some (.own a)) (D:∀b xs,H b=some (.tup xs)->H' b=some (.tup xs)):Au P w H' h' a o:=by
 induction o with
 |lst xs=>obtain⟨z,l,n,r,e⟩:=x;exact⟨z,l,n,r,k _ _ (.inl rfl) e⟩
 |tup xs=>obtain⟨z,l,r,g,e,c⟩:=x;exact⟨z,l,r,g,k _ _ (.inl rfl) e,c⟩
 |dK kvs=>obtain⟨z,y,E,r,g,i,j,e,c⟩:=x;exact⟨z,y,E,r,g,i,j,k _ _ (.inl rfl) e,c⟩
 |dT kvs=>
  obtain⟨z,y,xs,r,g,i,j,e,c⟩:=x
  exact⟨z,y,xs,Paired.eM r fun p q z=>⟨z.1,D _ _ z.2.1,z.2.2⟩,g,i,j,k _ _ (.inl rfl) e,c⟩
 |set S n=>obtain⟨g,i,j,t,e,c⟩:=x;exact⟨g,i,j,t,k _ _ (.inl rfl) e,c⟩
 |ins C I fs=>
  obtain⟨d,z,ne,e,m,⟨s,i,j,F,c⟩,r⟩:=x
  exact⟨B _ d,z,ne,k _ _ (.inl rfl) e,m,⟨s,i,j,k _ _ (.inr d) F,c⟩,r⟩
 |own y=>obtain⟨g,e⟩:=x;exact⟨g,k _ _ (.inl rfl) e⟩
 |xd fs=>obtain⟨m,⟨s,i,j,e,c⟩,r⟩:=x;exact⟨m,⟨s,i,j,k _ _ (.inl rfl) e,c⟩,r⟩
 |ai lo J=>obtain⟨t,u,v,e⟩:=x;exact⟨t,u,v,k _ _ (.inl rfl) e⟩
 |CK g u G=>obtain⟨e,q⟩:=x;exact⟨k _ _ (.inl rfl) e,G q⟩
 |aj A=>
  have e:h.get? a=some {cls:=.none,data:=.fields A}:=x
  show h'.get? a=some {cls:=.none,data:=.fields A}
  exact k a _ (.inl rfl) e
 |met f y=>
  have e:h.get? a=some (PySem.W.methodObj (.ref f) (.ref y)):=x
  show h'.get? a=some (PySem.W.methodObj (.ref f) (.ref y))
  exact k a _ (.inl rfl) e
 |ext K=>obtain⟨p,⟨o,e⟩,st⟩:=x;exact⟨st _ _ p fun o q=>k _ _ (.inl rfl) q,⟨o,k _ _ (.inl rfl) e⟩,st⟩
theorem Fj.lt (x:Fj P w H h) (e:H a=some o):a<h.objs.size:=(x a o e).lt
theorem Fj.fresh (x:Fj P w H h) (e:h.objs.size<=a):H a=none:=by
 cases q:H a with
 |none=>rfl
 |some u=>exact absurd (Nat.lt_of_lt_of_le (x.lt q) e) (Nat.lt_irrefl _)
theorem Fj.kept (x:Fj P w H h) (k:∀b u,h.get? b=some u->h'.get? b=some u):Fj P w H h':=fun a o e=>
 (x a o e).Pk (fun b u _ q=>k b u q) (fun _ q=>q) fun _ _ q=>q
theorem Fj.laid (x:Fj P w H h) (k:∀b u,h.get? b=some u->h'.get? b=some u) (g:h.objs.size<=a) (new:Au P w (upd H a o) h' a o):Fj P w (upd H a o) h':=fun b u e=>by
 have d:=x.fresh g
 by_cases f:b=a
 ·subst f;rw[AE]at e;cases e;exact new
 ·rw[AK f]at e
  exact(x b u e).Pk (fun c v _ q=>k c v q) (fun c q=>by rw[AK (Ac q d)];exact q) fun c i q=>by rw[AK (Ac q d)];exact q
end
def Rd (H:Hp) (a:Addr) (u:HO):Prop:=H a=some u∨∃o,H a=some (.CK o u)
theorem Rd.ok {P:Program} {w:World} {H:Hp} {h:Heap} {a:Addr} {u:HO} (r:Rd H a u) (x:Fj P w H h):Au P w H h a u:=by
 rcases r with r|⟨o,r⟩
 ·exact x a u r
 ·obtain⟨_,q⟩:=x a _ r
  exact q
def eN:Option HO->Prop
 |some (.lst _)=>True
 |some (.dK _)=>True
 |some (.dT _)=>True
 |some (.set _ _)=>True
 |some (.ins _ _ _)=>True
 |some (.ext _)=>True
 |_=>False
section
variable{P:Program} {w:World} {H:Hp} {h h':Heap} {x e:Addr} {o':HO}
theorem Fj.write (ok:Fj P w H h) (g:eN (H x)) (n:e=x∨H e=some (.own x)) (k:∀b u,b≠e->h.get? b=some u->h'.get? b=some u) (m:∃u,h'.get? e=some u)
  (new:Au P w (upd H x o') h' x o'):Fj P w (upd H x o') h':=fun b u q=>by
 have d:∀c y,H c=some (.own y)->c≠x:=fun c y r z=>by subst z;rw[r]at g;exact g
 have f:∀c i,H c=some (.tup i)->c≠x:=fun c i r z=>by subst z;rw[r]at g;exact g
 by_cases j:b=x
 ·subst j;rw[AE]at q;cases q;exact new
 ·rw[AK j]at q
  by_cases a:b=e
  ·have o:H b=some (.own x):=by
    rcases n with z|z
    ·exact absurd (a.trans z) j
    ·rw[a];exact z
   rw[q]at o;cases o
   obtain⟨v,p⟩:=m
   exact⟨v,by rw[a];exact p⟩
  ·refine(ok b u q).Pk (fun c v l r=>k c v ?_ r) (fun c r=>by rw[AK (d c b r)];exact r) fun c i r=>by rw[AK (f c i r)];exact r
   rcases l with rfl|l
   ·exact a
   ·rintro rfl
    rcases n with z|z
    ·exact d c b l z
    ·rw[l]at z;cases z;exact j rfl
end
structure Un (fs ex:List Addr) (H H':Hp) (h h':Heap):Prop where
 keep:∀b o,h.get? b=some o->H b=none->b∉fs->b∉ex->h'.get? b=some o
 slot:∀b o,h.get? b=some o->H b=none->b∈fs->b∉ex->∃sl,h'.get? b=some {o with slots:=sl}
 free:∀b o,h.get? b=some o->H b=none->b∉ex->H' b=none
 there:∀b o,h.get? b=some o->b∉ex->∃o',h'.get? b=some o'
 Iu:∀b xs,H b=some (.tup xs)->H' b=some (.tup xs)
 Gy:∀b o u,H b=some (.CK o u)->H' b=some (.CK o u)
 Kf:∀b ps,H b=some (.aj ps)->∃more,H' b=some (.aj (ps++more))
section
variable{fs yE ex ex':List Addr} {H H1 H2:Hp} {h h1 h2 h':Heap} {a x e:Addr} {o:HO}
theorem Un.any (u:Un fs ex H H1 h h1) {b:Addr} {c:Obj} (q:h.get? b=some c) (n:H b=none) (d:b∉ex):∃sl,h1.get? b=some {c with slots:=sl}:=by
 by_cases f:b∈fs
 ·exact u.slot b c q n f d
 ·exact⟨c.slots,u.keep b c q n f d⟩
theorem Un.kept (k:∀b u,h.get? b=some u->h'.get? b=some u):Un fs ex H H h h':=
 ⟨fun b c q _ _ _=>k b c q,fun b c q _ _ _=>⟨c.slots,k b c q⟩,fun _ _ _ n _=>n,fun b c q _=>⟨c,k b c q⟩,fun _ _ q=>q,fun _ _ _ q=>q,fun _ d q=>⟨#[],by rw[q];simp⟩⟩
theorem Un.refl:Un fs ex H H h h:=Un.kept fun _ _ q=>q
theorem Un.laid (k:∀b u,h.get? b=some u->h'.get? b=some u) (hp:h.objs.size<=a) (hn:H a=none):Un fs ex H (upd H a o) h h' where
 keep:=fun b u q _ _ _=>k b u q
 slot:=fun b u q _ _ _=>⟨u.slots,k b u q⟩
 free:=fun b u q n _=>by rw[AK (Nat.ne_of_lt (Nat.lt_of_lt_of_le (Heap.lt_size q) hp))];exact n
 there:=fun b u q _=>⟨u,k b u q⟩
 Iu:=fun b xs q=>by rw[AK (Ac q hn)];exact q
 Gy:=fun b u xs q=>by rw[AK (Ac q hn)];exact q
 Kf:=fun b ps q=>⟨#[],by rw[AK (Ac q hn),q];simp⟩
theorem Un.write (d:eN (H x)) (l:e=x∨H e=some (.own x)) (k:∀b u,b≠e->h.get? b=some u->h'.get? b=some u) (f:∃u,h'.get? e=some u):Un fs ex H (upd H x o) h h':=by
 have i:∀b,H b=none->b≠x:=fun b n z=>by subst z;rw[n]at d;exact d
 have j:∀b,H b=none->b≠e:=fun b n z=>by
  subst z
  rcases l with r|r
  ·exact i b n r
  ·rw[n]at r;cases r
 have g:∀b u,H b=some u->¬eN (some u)->b≠x:=fun b u q nm z=>by subst z;rw[q]at d;exact nm d
 refine⟨fun b u q n _ _=>k b u (j b n) q,fun b u q n _ _=>⟨u.slots,k b u (j b n) q⟩,fun b u q n _=>by rw[AK (i b n)];exact n,fun b u q _=>?_,
  fun b m q=>by rw[AK (g b _ q fun z=>z)];exact q,fun b u m q=>by rw[AK (g b _ q fun z=>z)];exact q,fun b p q=>⟨#[],by rw[AK (g b _ q fun z=>z),q];simp⟩⟩
 by_cases c:b=e
 ·subst c;exact f
 ·exact⟨u,k b u c q⟩
end
def jN (h:Heap) (H:Hp):List Addr:=(List.range h.objs.size).filter fun a=>(H a).isSome
def MB (h:Heap) (H:Hp):Heap:=PySem.W.hideAll h (jN h H)
theorem Sb (h:Heap) (H:Hp):(MB h H).objs.size=h.objs.size:=PySem.W.hideAll_size _ _
theorem UI {h:Heap} {H:Hp} {b:Addr} {o:Obj} (e:h.get? b=some o) (n:H b=none):(MB h H).get? b=some o:=
 PySem.W.hideAll_get _ e fun a=>by
  have q:(H b).isSome=true:=(List.mem_filter.mp a).2
  rw[n]at q;simp at q
theorem Xb {h:Heap} {H:Hp} {b:Addr} {o:Obj} (e:(MB h H).get? b=some o):h.get? b=some o/\H b=none:=by
 have a:h.get? b=some o:=PySem.W.of_hideAll (jN h H) e
 refine⟨a,?_⟩
 cases q:H b with
 |none=>rfl
 |some x=>
  have c:b∈jN h H:=List.mem_filter.mpr ⟨List.mem_range.mpr (Heap.lt_size a),by simp[q]⟩
  have z:(MB h H).get? b=none:=PySem.W.hideAll_none (jN h H) c
  rw[z]at e;cases e
def Xc (g h:Heap) (L:Addr):List (Addr×Obj):=(List.range h.objs.size).filterMap fun a=>if a=L∨(g.get? a).isSome=true then none else(h.get? a).map fun o=>(a,o)
def rest (g h:Heap) (L d:Addr):List (Addr×Obj):=(Xc g h L).filter fun p=>decide (p.1≠d)
structure Mod (K:ADv) (mg:Str->Option Value) (base:Heap):Prop where
 eO:K.In base
 glob:base.Ns mainGlobals mg
 blt:∃mb,base.Ns builtinsNs mb/\∀x:Str,x≠"__name__"->mb x=bootBuiltins x
 nolimit:base.NoLimit
structure Cx where
 prog:Program
 w:World
 K:ADv
 mg:Str->Option Value
 base:Heap
 A:Around
 N:List Str
 s₀:Shared
 H₀:Hp
 env:Env
 outer:List Env
 stack:List Env
 ex:List Addr
 fn:Str->Bool
 calm:Bool
 pn:List (Addr×Obj)
 xe:Value->Shared->Prop
def UJ (l:List Env):List Addr:=l.filterMap (·.frame)
abbrev Cx.fs (X:Cx):List Addr:=UJ X.outer
def kW (a:Scope) (x:Str):Prop:=a.names.lookup x=some .local∨a.names.lookup x=some .cell∨a.names.lookup x=some .free
def Loc (a:Scope) (x:Str):Prop:=a.names.lookup x=some .local∨a.names.lookup x=some .cell
def Look (env:Env) (h:Heap) (m:Str->Option Value) (x:Str) (u:Value):Prop:=
 (env.kindOf x=some .local/\m x=some u)∨((env.kindOf x=some .cell∨env.kindOf x=some .free)/\∃c,env.cells.lookup x=some c/\h.IsCell c (some u))
structure Cx.Ok (X:Cx):Prop where
 mod:Mod X.K X.mg X.base
 kind:X.env.scope.kind=.function
 glob:X.env.globals=mainGlobals
 blt:X.env.builtins=builtinsNs
 above:X.s₀.heap.objs.size<=X.env.locals
 inj:∀x y c,X.env.cells.lookup x=some c->X.env.cells.lookup y=some c->x=y
 has:∀x,(X.env.kindOf x=some .cell∨X.env.kindOf x=some .free)->∃c,X.env.cells.lookup x=some c
 eP:∀x c,X.fn x=true->X.env.cells.lookup x=some c->X.s₀.heap.objs.size<=c
 hd:X.calm=true->X.A.handled=none
 frames:X.A.frames=some X.stack
 jO:X.stack=X.outer∨(X.stack=X.env::X.outer/\X.env.frame=some X.env.locals)
 jP:∀b∈X.ex,b≠X.env.locals/\∀x c,X.env.cells.lookup x=some c->c≠b
 bs:∀b o,X.base.get? b=some o->X.s₀.heap.get? b=some o/\X.H₀ b=none
 Zg:X.base.objs.size<=X.s₀.heap.objs.size
 UK:∀b o,X.base.get? b=some o->b∉X.ex
 UL:∀b∈X.ex,b∉X.fs
 Iv:X.s₀.heap.FunFrames X.base X.outer
 dY:∀b∈X.fs,X.H₀ b=none
structure Inv (X:Cx) (pins:List (Addr×Obj)) (σ:List (Option V)) (H:Hp) (s:Shared):Prop where
 ok:X.Ok
 os:s.os=X.s₀.os
 bare:AllBare s.gens
 base:Un X.fs X.ex X.H₀ H X.s₀.heap s.heap
 loc:∃m,s.heap.Ns X.env.locals m/\∀(i:Nat) (x:Str) (v:V),X.N[i]?=some x->σ[i]?=some (some v)->kW X.env.scope x->∃u,RelV v u/\Look X.env s.heap m x u
 cell:∀x c,X.env.cells.lookup x=some c->∃v,s.heap.IsCell c v
 free:H X.env.locals=none
 DS:∀x c,X.env.cells.lookup x=some c->H c=none
 pin:∀p∈X.pn++pins,s.heap.get? p.1=some p.2/\H p.1=none/\p.1≠X.env.locals/\p.1∉X.fs/\∀v,p.2.data≠.cell v
 BS:Fj X.prog X.w H s.heap
 len:σ.length=X.N.length
section
variable{X:Cx} {pins:List (Addr×Obj)} {σ:List (Option V)} {H H':Hp} {s:Shared} {h':Heap}
theorem Cx.Ok.kX (ok:X.Ok) {b:Addr} {o:Obj} (e:X.base.get? b=some o):b∉X.fs:=fun a=>by
 have:=(ok.Iv.mem a).1
 rw[e]at this;cases this
theorem Inv.bs (I:Inv X pins σ H s):∀b o,X.base.get? b=some o->s.heap.get? b=some o/\H b=none:=fun b o e=>
 ⟨I.base.keep b o (I.ok.bs b o e).1 (I.ok.bs b o e).2 (I.ok.kX e) (I.ok.UK b o e),I.base.free b o (I.ok.bs b o e).1 (I.ok.bs b o e).2 (I.ok.UK b o e)⟩
theorem Inv.bk (I:Inv X pins σ H s):∀b o,X.base.get? b=some o->s.heap.get? b=some o:=fun b o e=>(I.bs b o e).1
theorem Inv.mod (I:Inv X pins σ H s):Mod X.K X.mg X.base:=I.ok.mod
theorem Inv.GB (I:Inv X pins σ H s):X.K.In s.heap:=I.ok.mod.eO.keeps I.bk
theorem Inv.lt (I:Inv X pins σ H s):X.env.locals<s.heap.objs.size:=let⟨_,a,_⟩:=I.loc;a.lt
theorem Inv.sz (I:Inv X pins σ H s):X.s₀.heap.objs.size<=s.heap.objs.size:=Nat.le_trans I.ok.above (Nat.le_of_lt I.lt)
theorem Inv.kY (I:Inv X pins σ H s) {a:Addr} (h:s.heap.objs.size<=a):a∉X.fs:=fun b=>by
 obtain⟨_,o,c,_⟩:=I.ok.Iv.mem b
 exact absurd (Nat.lt_of_lt_of_le (Heap.lt_size c) (Nat.le_trans I.sz h)) (Nat.lt_irrefl _)
theorem Inv.ao (I:Inv X pins σ H s):∀x c,X.env.cells.lookup x=some c->c≠X.env.locals:=fun x c e z=>by
 obtain⟨v,o,d,f⟩:=I.cell x c e
 obtain⟨m,⟨g,h,i,a,b,_⟩,_⟩:=I.loc
 rw[z,a]at d;cases d;rw[b]at f;cases f
theorem Inv.Iv (I:Inv X pins σ H s):s.heap.FunFrames X.base X.outer:=by
 have all:∀(l:List Env),(∀b∈UJ l,b∈X.fs)->X.s₀.heap.FunFrames X.base l->s.heap.FunFrames X.base l:=by
  intro l
  induction l with
  |nil=>intro _ _;trivial
  |cons env r g=>
   intro f h
   obtain⟨i,⟨L,o,a,j,k,m⟩,n⟩:=h
   have c:L∈X.fs:=f L (by unfold UJ;rw[List.filterMap_cons,a];exact List.mem_cons_self)
   obtain⟨p,e⟩:=I.base.slot L o k (I.ok.dY L c) c fun z=>I.ok.UL L z c
   exact⟨i,⟨L,_,a,j,e,m⟩,g (fun b d=>f b (by unfold UJ;rw[List.filterMap_cons,a];exact List.mem_cons_of_mem _ d)) n⟩
 exact all X.outer (fun _ d=>d) I.ok.Iv
theorem Inv.stack (I:Inv X pins σ H s):s.heap.FunFrames X.base X.stack:=by
 rcases I.ok.jO with e|⟨e,a⟩
 ·rw[e];exact I.Iv
 ·rw[e]
  obtain⟨m,b,_⟩:=I.loc
  refine .cons (by rw[I.ok.kind];decide) a b ?_ I.Iv
  exact Heap.get?_none_of_le (Nat.le_trans I.ok.Zg I.ok.above)
theorem Inv.Pl (I:Inv X pins σ H s):∀b∈UJ X.stack,b∈X.env.locals::X.fs:=fun b a=>by
 rcases I.ok.jO with e|⟨e,c⟩
 ·rw[e]at a;exact List.mem_cons_of_mem _ a
 ·rw[e]at a
  unfold UJ at a
  rw[List.filterMap_cons,c]at a
  exact a
theorem Inv.RD (I:Inv X pins σ H s):∀b∈UJ X.stack,H b=none:=fun b a=>by
 rcases List.mem_cons.mp (I.Pl b a)with e|a
 ·rw[e];exact I.free
 ·obtain⟨_,o,c,_⟩:=I.ok.Iv.mem a
  exact I.base.free b o c (I.ok.dY b a) fun z=>I.ok.UL b z a
theorem Inv.step {g':Array GenState} {t':Nat} {d':Drawn} {ch:List Addr} (I:Inv X pins σ H s)
  (f:∀b∈ch,(b∈X.ex∨X.s₀.heap.objs.size<=b)/\b≠X.env.locals/\(∀x c,X.env.cells.lookup x=some c->c≠b)/\∀p∈X.pn++pins,p.1≠b)
  (keep:∀b o,b≠X.env.locals->b∉X.fs->b∉ch->s.heap.get? b=some o->H b=none->h'.get? b=some o)
  (slot:∀b o,b≠X.env.locals->b∈X.fs->b∉ch->s.heap.get? b=some o->H b=none->∃sl,h'.get? b=some {o with slots:=sl}) (free:∀b o,b∉ch->s.heap.get? b=some o->H b=none->H' b=none)
  (there:∀b o,b∉ch->s.heap.get? b=some o->∃B,h'.get? b=some B)
  (Iu:∀b t,H b=some (.tup t)->H' b=some (.tup t)) (Gy:∀b o u,H b=some (.CK o u)->H' b=some (.CK o u)) (Kf:∀b E,H b=some (.aj E)->∃more,H' b=some (.aj (E++more)))
  (M:∀m,s.heap.Ns X.env.locals m->h'.Ns X.env.locals m) (F:Fj X.prog X.w H' h') (N:AllBare g'):
  Inv X pins σ H' {s with heap:=h',gens:=g',drawn:=d',toks:=t'}:=by
 have C:∀b o,X.s₀.heap.get? b=some o->b≠X.env.locals:=fun b o e=>Nat.ne_of_lt (Nat.lt_of_lt_of_le (Heap.lt_size e) I.ok.above)
 have h:∀b o,X.s₀.heap.get? b=some o->b∉X.ex->b∉ch:=fun b o e a y=>by
  rcases(f b y).1 with z|z
  ·exact a z
  ·exact absurd (Nat.lt_of_lt_of_le (Heap.lt_size e) z) (Nat.lt_irrefl _)
 have cellK:∀x c,X.env.cells.lookup x=some c->∀v,s.heap.IsCell c v->h'.IsCell c v:=fun x c e v ⟨o,A,G⟩=>by
  have g:c∉ch:=fun z=>(f c z).2.2.1 x c e rfl
  by_cases K:c∈X.fs
  ·obtain⟨sl,q⟩:=slot c o (I.ao x c e) K g A (I.DS x c e)
   exact⟨_,q,G⟩
  ·exact⟨o,keep c o (I.ao x c e) K g A (I.DS x c e),G⟩
 refine⟨I.ok,I.os,N,⟨fun b o e n y a=>?_,fun b o e n y a=>?_,fun b o e n a=>?_,fun b o e a=>?_,fun b t e=>Iu b t (I.base.Iu b t e),fun b o t e=>Gy b o t (I.base.Gy b o t e),fun b E e=>?_⟩,?_,fun x c e=>?_,?_,fun x c e=>?_,fun p L=>?_,F,I.len⟩
 ·exact keep b o (C b o e) y (h b o e a) (I.base.keep b o e n y a) (I.base.free b o e n a)
 ·obtain⟨sl,j⟩:=I.base.slot b o e n y a
  obtain⟨J,D⟩:=slot b _ (C b o e) y (h b o e a) j (I.base.free b o e n a)
  exact⟨J,D⟩
 ·obtain⟨B,j⟩:=I.base.there b o e a
  exact free b B (h b o e a) j (I.base.free b o e n a)
 ·obtain⟨B,j⟩:=I.base.there b o e a
  exact there b B (h b o e a) j
 ·obtain⟨O,j⟩:=I.base.Kf b E e
  obtain⟨P,D⟩:=Kf b _ j
  exact⟨O++P,by rw[D,Array.append_assoc]⟩
 ·obtain⟨m,Q,R⟩:=I.loc
  refine⟨m,M m Q,fun i x v j D S=>?_⟩
  obtain⟨u,r,l⟩:=R i x v j D S
  refine⟨u,r,?_⟩
  rcases l with l|⟨k,c,e,z⟩
  ·exact .inl l
  ·exact .inr ⟨k,c,e,cellK x c e _ z⟩
 ·obtain⟨v,z⟩:=I.cell x c e
  exact⟨v,cellK x c e v z⟩
 ·obtain⟨m,⟨o,_,_,A,_⟩,_⟩:=I.loc
  exact free _ o (fun z=>(f _ z).2.1 rfl) A I.free
 ·obtain⟨v,o,A,G⟩:=I.cell x c e
  exact free c o (fun z=>(f c z).2.2.1 x c e rfl) A (I.DS x c e)
 ·obtain⟨e,n,ne,nf,d⟩:=I.pin p L
  have g:p.1∉ch:=fun z=>(f p.1 z).2.2.2 p L rfl
  exact⟨keep p.1 p.2 ne nf g e n,free p.1 p.2 g e n,ne,nf,d⟩
theorem Inv.un {t':Nat} (I:Inv X pins σ H s) (u:Un X.fs [] H H' s.heap h') (c:Fj X.prog X.w H' h'):Inv X pins σ H' {s with heap:=h',toks:=t'}:=by
 obtain⟨m,⟨o,l,p,h,r⟩,_⟩:=id I.loc
 obtain⟨q,i⟩:=u.any h I.free (by simp)
 exact I.step (g':=s.gens) (d':=s.drawn) (ch:=[]) (fun _ z=>nomatch z) (fun b o _ d _ e n=>u.keep b o e n d (by simp)) (fun b o _ d _ e n=>u.slot b o e n d (by simp)) (fun b o _ e n=>u.free b o e n (by simp)) (fun b o _ e=>u.there b o e (by simp)) u.Iu u.Gy u.Kf (fun t j=>by
  obtain⟨v,f,g,a,k⟩:=j
  rw[h]at a;cases a
  exact⟨_,f,g,i,k⟩) c I.bare
theorem Inv.call {g':Array GenState} {t':Nat} {d':Drawn} {ch:List Addr} (I:Inv X pins σ H s) (u:Un (UJ X.stack) ch H H' s.heap h') (g:Fj X.prog X.w H' h') (l:AllBare g')
  (d:∀b∈ch,(b∈X.ex∨X.s₀.heap.objs.size<=b)/\b≠X.env.locals/\(∀x c,X.env.cells.lookup x=some c->c≠b)/\∀p∈X.pn++pins,p.1≠b):
  Inv X pins σ H' {s with heap:=h',gens:=g',drawn:=d',toks:=t'}:=by
 obtain⟨m,⟨o,y,A,k,r⟩,_⟩:=id I.loc
 obtain⟨B,h⟩:=u.any k I.free fun z=>(d _ z).2.1 rfl
 exact I.step (ch:=ch) d (fun b o h q a e n=>u.keep b o e n (fun z=>(List.mem_cons.mp (I.Pl b z)).elim h q) a) (fun b o _ _ a e n=>u.any e n a) (fun b o a e n=>u.free b o e n a) (fun b o a e=>u.there b o e a) u.Iu u.Gy u.Kf (fun C t=>by
  obtain⟨D,i,j,f,v⟩:=t
  rw[k]at f;cases f
  exact⟨_,i,j,h,v⟩) g l
theorem Inv.turned {t':Nat} {a:Addr} (I:Inv X pins σ H s) (k:∀b o,b≠a->s.heap.get? b=some o->h'.get? b=some o) (h:H a=none) (g:a≠X.env.locals)
  (i:a∈X.ex∨X.s₀.heap.objs.size<=a) (j:∀x c,X.env.cells.lookup x=some c->c≠a) (l:∀p∈X.pn++pins,p.1≠a):Inv X pins σ H {s with heap:=h',toks:=t'}:=by
 have f:∀b u,H b=some u->b≠a:=fun b u e z=>by rw[z,h]at e;cases e
 refine I.step (g':=s.gens) (d':=s.drawn) (ch:=[a]) (fun b t=>?_) (fun b o _ _ d e _=>k b o (fun z=>d (by simp[z])) e) (fun b o _ _ d e _=>⟨o.slots,k b o (fun z=>d (by simp[z])) e⟩) (fun _ _ _ _ n=>n)
  (fun b o d e=>⟨o,k b o (fun z=>d (by simp[z])) e⟩) (fun _ _ e=>e) (fun _ _ _ e=>e) (fun b C e=>⟨#[],by rw[e];simp⟩) (fun m w=>?_) (fun b u e=>?_) I.bare
 ·have e:b=a:=by simpa using t
  subst e
  exact⟨i,g,j,l⟩
 ·obtain⟨o,y,A,B,r⟩:=w
  exact⟨o,y,A,k _ o (Ne.symm g) B,r⟩
 ·refine(I.BS b u e).Pk (fun c v d q=>k c v ?_ q) (fun _ q=>q) fun _ _ q=>q
  rcases d with z|z
  ·rw[z];exact f b u e
  ·exact f c _ z
theorem Inv.tok (I:Inv X pins σ H s) (t:Nat):Inv X pins σ H {s with toks:=t}:=I.un (h':=s.heap) (t':=t) Un.refl I.BS
theorem Inv.kept {t':Nat} (I:Inv X pins σ H s) (k:∀b u,s.heap.get? b=some u->h'.get? b=some u):Inv X pins σ H {s with heap:=h',toks:=t'}:=I.un (Un.kept k) (I.BS.kept k)
theorem Inv.laid {a:Addr} {o:HO} {t':Nat} (I:Inv X pins σ H s) (k:∀b u,s.heap.get? b=some u->h'.get? b=some u) (c:s.heap.objs.size<=a) (new:Au X.prog X.w (upd H a o) h' a o):
  Inv X pins σ (upd H a o) {s with heap:=h',toks:=t'}:=I.un (Un.laid k c (I.BS.fresh c)) (I.BS.laid k c new)
theorem Inv.write {x e:Addr} {o:HO} {t':Nat} (I:Inv X pins σ H s) (c:eN (H x)) (d:e=x∨H e=some (.own x)) (k:∀b u,b≠e->s.heap.get? b=some u->h'.get? b=some u) (a:∃u,h'.get? e=some u)
  (new:Au X.prog X.w (upd H x o) h' x o):Inv X pins σ (upd H x o) {s with heap:=h',toks:=t'}:=I.un (Un.write c d k a) (I.BS.write c d k a new)
theorem Inv.RE {a:List (Addr×Obj)} (I:Inv X pins σ H s) (h:∀p∈a,s.heap.get? p.1=some p.2/\H p.1=none/\p.1≠X.env.locals/\p.1∉X.fs/\∀v,p.2.data≠.cell v):Inv X a σ H s:=
 ⟨I.ok,I.os,I.bare,I.base,I.loc,I.cell,I.free,I.DS,fun p b=>(List.mem_append.mp b).elim (fun z=>I.pin p (List.mem_append_left _ z)) (h p),I.BS,I.len⟩
theorem NP {N:List Str} (c:N.Nodup) {i j:Nat} {x:Str} (a:N[i]?=some x) (b:N[j]?=some x):i=j:=by
 obtain⟨f,d⟩:=ADs a
 obtain⟨g,e⟩:=ADs b
 exact(List.getElem_inj c).mp (d.trans e.symm)
theorem Kw {M:Model} {A:Around} {E:Value->Shared->Prop} {i:Nat} {x:Str} {v:V} {u:Value} {Q:Unit->Shared->Prop} (I:Inv X pins σ H s) (hN:X.N.Nodup) (L:X.N[i]?=some x) (t:Loc X.env.scope x) (r:RelV v u)
  (h:∀Y,Inv X pins (σ.set i (some v)) H Y->(∃a,Heap.SameBut a s.heap Y.heap/\(a=X.env.locals∨X.env.cells.lookup x=some a))->Q () Y) (hf:X.fn x=true∨X.env.scope.names.lookup x=some .local:=by first|exact .inl rfl|exact .inr rfl|assumption):wpAny M A (storeName X.env x u) Q E s:=by
 obtain⟨m,Z,hl⟩:=id I.loc
 have O:(X.env.scope.kind==.class||(X.env.scope.kind==.module&&X.env.locals !=X.env.globals))=false:=by rw[I.ok.kind];rfl
 have D:i<σ.length:=by rw[I.len];exact(ADs L).1
 have ao:=I.ao
 have tracked:∀{a:Addr} {h':Heap},(∃o,s.heap.get? a=some o/\H a=none)->Heap.SameBut a s.heap h'->Fj X.prog X.w H h':=fun{a h'} ha f b ob e=>by
  obtain⟨_,_,B⟩:=ha
  refine(I.BS b ob e).Pk (fun c U l q=>(f.2 c ?_).trans q) (fun _ q=>q) fun _ _ q=>q
  rintro rfl
  rcases l with rfl|l
  ·rw[B]at e;cases e
  ·rw[B]at l;cases l
 rcases t with F|F
 ·refine wpAny_storeName_local F Z (fun h' yF f=>?_) O
  obtain⟨oL,_,_,yG,_⟩:=id Z
  refine h _ ⟨I.ok,I.os,I.bare,⟨fun b o e n G t=>?_,fun b o e n G t=>?_,I.base.free,fun b o e t=>?_,I.base.Iu,I.base.Gy,I.base.Kf⟩,⟨_,yF,fun j y v' g C e3=>?_⟩,fun y c e=>?_,I.free,I.DS,fun p hp=>?_,tracked ⟨oL,yG,I.free⟩ f,by simpa using I.len⟩ ⟨_,f,.inl rfl⟩
  ·exact(f.2 b (Nat.ne_of_lt (Nat.lt_of_lt_of_le (Heap.lt_size e) I.ok.above))).trans (I.base.keep b o e n G t)
  ·obtain⟨sl,g⟩:=I.base.slot b o e n G t
   exact⟨sl,(f.2 b (Nat.ne_of_lt (Nat.lt_of_lt_of_le (Heap.lt_size e) I.ok.above))).trans g⟩
  ·obtain⟨o',g⟩:=I.base.there b o e t
   exact⟨o',(f.2 b (Nat.ne_of_lt (Nat.lt_of_lt_of_le (Heap.lt_size e) I.ok.above))).trans g⟩
  ·by_cases J:j=i
   ·subst J
    rw[L]at g;cases g
    rw[List.getElem?_set_self D]at C
    cases C
    exact⟨u,r,.inl ⟨F,by simp⟩⟩
   ·rw[List.getElem?_set_ne (Ne.symm J)]at C
    obtain⟨u',r',q⟩:=hl j y v' g C e3
    refine⟨u',r',?_⟩
    rcases q with⟨k,e⟩|⟨k,c,e,z⟩
    ·refine .inl ⟨k,?_⟩
     have:y≠x:=fun e=>J (NP hN g (e▸L))
     simp[this,e]
    ·exact .inr ⟨k,c,e,z.sameBut f (ao y c e)⟩
  ·obtain⟨U,z⟩:=I.cell y c e
   exact⟨U,z.sameBut f (ao y c e)⟩
  ·obtain⟨e,n,ne,nf,d⟩:=I.pin p hp
   exact⟨(f.2 p.1 ne).trans e,n,ne,nf,d⟩
 ·have K:X.fn x=true:=by
   rcases hf with z|z
   ·exact z
   ·rw[z]at F;cases F
  obtain⟨c,l⟩:=I.ok.has x (.inl F)
  obtain⟨U,z⟩:=I.cell x c l
  refine wpAny_storeName_cell I.ok.kind F l z (fun h' P f=>?_)
  obtain⟨oc,R,S⟩:=id z
  refine h {s with heap:=h'} ⟨I.ok,I.os,I.bare,⟨fun b o e n G t=>?_,fun b o e n G t=>?_,I.base.free,fun b o e t=>?_,I.base.Iu,I.base.Gy,I.base.Kf⟩,⟨m,Z.sameBut f (Ne.symm (ao x c l)),fun j y v' g C e3=>?_⟩,fun y W e=>?_,I.free,I.DS,fun p hp=>?_,tracked ⟨oc,R,I.DS x c l⟩ f,by simpa using I.len⟩ ⟨c,f,.inr l⟩
  ·exact(f.2 b (Nat.ne_of_lt (Nat.lt_of_lt_of_le (Heap.lt_size e) (I.ok.eP x c K l)))).trans (I.base.keep b o e n G t)
  ·obtain⟨sl,g⟩:=I.base.slot b o e n G t
   exact⟨sl,(f.2 b (Nat.ne_of_lt (Nat.lt_of_lt_of_le (Heap.lt_size e) (I.ok.eP x c K l)))).trans g⟩
  ·obtain⟨o',g⟩:=I.base.there b o e t
   exact⟨o',(f.2 b (Nat.ne_of_lt (Nat.lt_of_lt_of_le (Heap.lt_size e) (I.ok.eP x c K l)))).trans g⟩
  ·by_cases J:j=i
   ·subst J
    rw[L]at g;cases g
    rw[List.getElem?_set_self D]at C
    cases C
    exact⟨u,r,.inr ⟨.inl F,c,l,P⟩⟩
   ·rw[List.getElem?_set_ne (Ne.symm J)]at C
    obtain⟨u',r',q⟩:=hl j y v' g C e3
    refine⟨u',r',?_⟩
    rcases q with q|⟨k,W,e,z'⟩
    ·exact .inl q
    ·refine .inr ⟨k,W,e,z'.sameBut f ?_⟩
     rintro rfl
     exact J (NP hN g (I.ok.inj _ _ _ e l▸L))
  ·by_cases T:W=c
   ·subst T;exact⟨_,P⟩
   ·obtain⟨w2,z2⟩:=I.cell y W e
    exact⟨w2,z2.sameBut f T⟩
  ·obtain⟨e,n,ne,nf,d⟩:=I.pin p hp
   refine⟨(f.2 p.1 ?_).trans e,n,ne,nf,d⟩
   intro q
   rw[q,R]at e
   have q':oc=p.2:=ADt e
   exact d U (by rw[<-q'];exact S)
theorem NQ {M:Model} {A:Around} {E:Value->Shared->Prop} {i:Nat} {x:Str} {v:V} {u:Value} {Q:Unit->Shared->Prop} (I:Inv X pins σ H s) (b:X.N.Nodup) (c:X.N[i]?=some x) (d:Loc X.env.scope x) (r:RelV v u)
  (h:∀a,Inv X pins (σ.set i (some v)) H a->Q () a) (e:X.fn x=true∨X.env.scope.names.lookup x=some .local:=by first|exact .inl rfl|exact .inr rfl|assumption):wpAny M A (storeName X.env x u) Q E s:=
 Kw I b c d r (fun a f _=>h a f) e
theorem Inv.eQ {a:Shared} {ch:List Addr} (I:Inv X pins σ H s) (g:a.os=s.os) (u:Un (UJ X.stack) ch H H' s.heap a.heap) (d:Fj X.prog X.w H' a.heap) (h:AllBare a.gens)
  (f:∀b∈ch,(b∈X.ex∨X.s₀.heap.objs.size<=b)/\b≠X.env.locals/\(∀x c,X.env.cells.lookup x=some c->c≠b)/\∀p∈X.pn++pins,p.1≠b):Inv X pins σ H' a:=by
 obtain⟨h',g',d',t',i⟩:=a
 have e:i=s.os:=g
 subst e
 exact I.call (g':=g') (t':=t') (d':=d') u d h f
end
abbrev XK:=Value->Option Addr->Hp->Prop
abbrev St:=List (Option V)
abbrev VK:=V->Hp->Prop
abbrev TE:=St->Hp->VK->Prop
abbrev TT:=St->Hp->(Bool->Hp->Prop)->Prop
abbrev TA:=St->Hp->(List V->Hp->Prop)->Prop
structure Ends where
 nx:St->Hp->Prop
 rt:VK
 bk:St->Hp->Prop:=fun _ _=>False
 ct:St->Hp->Prop:=fun _ _=>False
abbrev TS:=Ends->St->Hp->Prop
inductive kZ (x:V) (H:Hp) (Q:Bool->Hp->Prop):Prop
 |mk (c:Bool) (e:x=.bl c) (q:Q c H):kZ x H Q
inductive eR (a:TE) (σ:St) (x:V) (H:Hp) (Q:VK):Prop
 |mk (c:Bool) (e:x=.bl c) (q:if c=true then a σ H Q else Q (.bl false) H):eR a σ x H Q
inductive vN (a:TE) (σ:St) (x:V) (H:Hp) (Q:VK):Prop
 |mk (c:Bool) (e:x=.bl c) (q:if c=true then Q (.bl true) H else a σ H Q):vN a σ x H Q
inductive ka (x:V) (H:Hp) (Q:VK):Prop
 |mk (c:Bool) (e:x=.bl c) (q:Q (.bl (!c)) H):ka x H Q
inductive yH (x y:V) (H:Hp) (k:Int->Int->Hp->Prop):Prop
 |mk (i j:Int) (e:x=.int i) (a:y=.int j) (q:k i j H):yH x y H k
inductive vO (x:V) (H:Hp) (Q:Option Int->Hp->Prop):Prop
 |mk (i:Int) (e:x=.int i) (q:Q (some i) H):vO x H Q
inductive kh (i j:Nat) (N:St->Hp->Prop) (σ:St) (vs:List V) (H:Hp):Prop
 |mk (v w:V) (e:vs=[v,w]) (q:N ((σ.set i (some v)).set j (some w)) H):kh i j N σ vs H
inductive EP (X:Cx) (pins:List (Addr×Obj)) (σ:St) (Q:VK) (u:Value) (a:Shared):Prop
 |mk (v:V) (b:Hp) (I:Inv X pins σ b a) (r:RelV v u) (q:Q v b):EP X pins σ Q u a
inductive TP (X:Cx) (pins:List (Addr×Obj)) (σ:St) (Q:Bool->Hp->Prop) (b:Bool) (a:Shared):Prop
 |mk (c:Hp) (I:Inv X pins σ c a) (q:Q b c):TP X pins σ Q b a
inductive AP (X:Cx) (pins:List (Addr×Obj)) (σ:St) (Q:List V->Hp->Prop) (us:List Value) (a:Shared):Prop
 |mk (vs:List V) (b:Hp) (I:Inv X pins σ b a) (r:Vals vs us) (q:Q vs b):AP X pins σ Q us a
theorem EP.elim {X:Cx} {pins:List (Addr×Obj)} {σ:St} {Q:VK} {u:Value} {b:Shared} {G:Prop} (h:EP X pins σ Q u b) (k:∀(v:V) (a:Hp),Inv X pins σ a b->RelV v u->Q v a->G):G:=by
 cases h with
 |mk v a I r q=>exact k v a I r q
theorem AP.elim {X:Cx} {pins:List (Addr×Obj)} {σ:St} {Q:List V->Hp->Prop} {us:List Value} {b:Shared} {G:Prop} (h:AP X pins σ Q us b) (k:∀(vs:List V) (a:Hp),Inv X pins σ a b->Vals vs us->Q vs a->G):G:=by
 cases h with
 |mk v a I r q=>exact k v a I r q
theorem TP.elim {X:Cx} {pins:List (Addr×Obj)} {σ:St} {Q:Bool->Hp->Prop} {b:Bool} {c:Shared} {G:Prop} (h:TP X pins σ Q b c) (k:∀a:Hp,Inv X pins σ a c->Q b a->G):G:=by
 cases h with
 |mk a I q=>exact k a I q
inductive jQ (X:Cx) (pins:List (Addr×Obj)) (N:St->Hp->Prop) (a:Shared):Prop
 |mk (σ:St) (b:Hp) (I:Inv X pins σ b a) (q:N σ b):jQ X pins N a
inductive vQ (X:Cx) (pins:List (Addr×Obj)) (Q:VK) (u:Value) (a:Shared):Prop
 |mk (v:V) (σ:St) (b:Hp) (I:Inv X pins σ b a) (r:RelV v u) (q:Q v b):vQ X pins Q u a
def SP (X:Cx) (pins:List (Addr×Obj)) (D:Ends) (f:Flow) (a:Shared):Prop:=
 match f with
 | .next=>jQ X pins D.nx a
 | .brk=>jQ X pins D.bk a
 | .cont=>jQ X pins D.ct a
 | .ret u=>vQ X pins D.rt u a
def PE (X:Cx) (e:Expr) (t:TE):Prop:=
 ∀(pins:List (Addr×Obj)) (s:Shared) (a:St) (H:Hp) (Q:VK),Inv X pins a H s->t a H Q->wpAny (model X.prog X.w) X.A (eval e X.env) (EP X pins a Q) X.xe s
def PT (X:Cx) (e:Expr) (t:TT):Prop:=
 ∀(pins:List (Addr×Obj)) (s:Shared) (a:St) (H:Hp) (Q:Bool->Hp->Prop),Inv X pins a H s->t a H Q->wpAny (model X.prog X.w) X.A (isTrue e X.env (eval e X.env)) (TP X pins a Q) X.xe s
def PW (X:Cx) (e:Expr) (t:TT):Prop:=
 ∀(whole:Sem Value) (pins:List (Addr×Obj)) (s:Shared) (a:St) (H:Hp) (Q:Bool->Hp->Prop),Inv X pins a H s->t a H Q->wpAny (model X.prog X.w) X.A (isTrue e X.env whole) (TP X pins a Q) X.xe s
theorem PW.pt {X:Cx} {e:Expr} {t:TT} (h:PW X e t):PT X e t:=h _
def PA (X:Cx) (es:List Expr) (t:TA):Prop:=
 ∀(pos:Pos) (pins:List (Addr×Obj)) (s:Shared) (a:St) (H:Hp) (Q:List V->Hp->Prop),Inv X pins a H s->t a H Q->wpAny (model X.prog X.w) X.A (spliced (backTo pos (starEach es X.env))) (AP X pins a Q) X.xe s
def PS (X:Cx) (st:Stmt) (t:TS):Prop:=
 ∀(pins:List (Addr×Obj)) (s:Shared) (a:St) (H:Hp) (D:Ends),Inv X pins a H s->t D a H->wpAny (model X.prog X.w) X.A (exec st X.env) (SP X pins D) X.xe s
def Sd (X:Cx) (st:List Stmt) (t:TS):Prop:=
 ∀(pins:List (Addr×Obj)) (s:Shared) (a:St) (H:Hp) (D:Ends),Inv X pins a H s->t D a H->wpAny (model X.prog X.w) X.A (execs st X.env) (SP X pins D) X.xe s
theorem BZ {b:Type} {t:Sem b} {Q c:b->Shared->Prop} {M:Model} {A:Around} {E:Value->Shared->Prop} {s:Shared} (h:wpAny M A t Q E s) (d:∀a s,Q a s->c a s):wpAny M A t c E s:=wpAny_mono h d fun _ _ x=>x
section
variable{X:Cx}
inductive Zh (i:Nat) (σ:St) (H:Hp) (Q:VK):Prop
 |mk (v:_) (a:σ[i]?=some (some v)) (b:Q v H):Zh i σ H Q
def Pm (i:Nat):TE:=fun a H Q=>Zh i a H Q
def tC (v:V):TE:=fun _ H Q=>Q v H
theorem aq {i:Nat} {x:Str} {pos:Pos} (j:X.N[i]?=some x) (k:kW X.env.scope x) (d:(x==("__debug__":Str))=false:=by decide) (f:(x==("__classdict__":Str))=false:=by decide):PE X (.Name x pos) (Pm i):=by
 intro pins s n H Q I h
 obtain⟨v,e,h⟩:=h
 obtain⟨m,o,p⟩:=I.loc
 obtain⟨u,r,l⟩:=p i x v j e k
 have fin:EP X pins n Q u s:=⟨v,H,I,r,h⟩
 rcases l with⟨b,q⟩|⟨b,c,g,a⟩
 ·exact wpAny_Name (wpAny_loadName_local I.ok.kind b o q fin) d
 ·rcases b with b|b
  ·exact wpAny_Name (wpAny_loadName_cell I.ok.kind b g a fin) d
  ·exact wpAny_Name (wpAny_loadName_free I.ok.kind b g a fin f) d
theorem AD {i j pos}:PE X (.Constant (.int i) j pos) (tC (.int i)):=fun _ _ _ H _ I h=>wpAny_Constant_int ⟨.int i,H,I.tok _,⟨_,rfl⟩,h⟩
theorem Cg {b j pos}:PE X (.Constant (.bool b) j pos) (tC (.bl b)):=fun _ _ _ H _ I h=>Constant_bool ⟨.bl b,H,I,rfl,h⟩
theorem EI {j pos}:PE X (.Constant .none j pos) (tC .BO):=fun _ _ _ H _ I h=>Constant_none ⟨.BO,H,I,rfl,h⟩
theorem Ag {x j pos}:PE X (.Constant (.str x) j pos) (tC (.str x)):=fun _ _ _ H _ I h=>Calls.Constant_str ⟨.str x,H,I.tok _,⟨_,rfl⟩,h⟩
def Gl (X:Cx) (x:Str):Prop:=X.env.kindOf x=some .globalImplicit
theorem RF {E:Value->Shared->Prop} {pins:List (Addr×Obj)} {s:Shared} {σ:St} {H:Hp} {x:Str} {u:Value} {pos:Pos} {Q:Value->Shared->Prop} (I:Inv X pins σ H s) (a:Gl X x) (b:X.mg x=some u) (h:Q u s)
  (c:(x==("__debug__":Str))=false:=by decide):wpAny (model X.prog X.w) X.A (eval (.Name x pos) X.env) Q E s:=
 Calls.Name_function_global I.ok.kind a (Calls.loadGlobal_global (by rw[I.ok.glob];exact I.mod.glob.keeps I.bk) b h) c
theorem Em {E:Value->Shared->Prop} {pins:List (Addr×Obj)} {s:Shared} {σ:St} {H:Hp} {x:Str} {u:Value} {pos:Pos} {Q:Value->Shared->Prop} (I:Inv X pins σ H s) (a:Gl X x) (b:X.mg x=none) (c:bootBuiltins x=some u) (h:Q u s)
  (d:x≠"__name__":=by decide) (e:(x==("__debug__":Str))=false:=by decide):wpAny (model X.prog X.w) X.A (eval (.Name x pos) X.env) Q E s:=by
 obtain⟨i,f,g⟩:=I.mod.blt
 exact Calls.Name_function_global I.ok.kind a (Calls.loadGlobal_builtin (by rw[I.ok.glob];exact I.mod.glob.keeps I.bk) b (by rw[I.ok.blt];exact f.keeps I.bk) ((g x d).trans c) h) e
theorem MC {x:Str} {v:V} {u:Value} {pos:Pos} (a:Gl X x) (b:X.mg x=some u) (r:RelV v u) (c:(x==("__debug__":Str))=false:=by decide):PE X (.Name x pos) (tC v):=
 fun _ _ _ H _ I h=>RF I a b ⟨v,H,I,r,h⟩ c
theorem Az {x:Str} {v:V} {u:Value} {pos:Pos} (a:Gl X x) (b:X.mg x=none) (c:bootBuiltins x=some u) (r:RelV v u) (d:x≠"__name__":=by decide) (e:(x==("__debug__":Str))=false:=by decide):PE X (.Name x pos) (tC v):=
 fun _ _ _ H _ I h=>Em I a b c ⟨v,H,I,r,h⟩ d e
variable{a b:Expr} {ta tb:TE} {pos:Pos}
def PC (X:Cx) (op:CmpOp) (a b:Expr) (t:TE):Prop:=
 ∀(pins:List (Addr×Obj)) (s:Shared) (e:St) (H:Hp) (Q:VK),Inv X pins e H s->t e H Q->
  wpAny (model X.prog X.w) X.A (eval a X.env) (fun v c=>wpAny (model X.prog X.w) X.A (eval b X.env) (fun u d=>wpAny (model X.prog X.w) X.A (compareOp op v u) (EP X pins e Q) X.xe d) X.xe c) X.xe s
def tB (t:TE):TT:=fun c H Q=>t c H fun x d=>kZ x d Q
theorem ar {op:CmpOp} {t:TE} (h:PC X op a b t) (d:behindInMarks op b=false:=by first|exact c _ (by decide) (by decide)|rfl):PE X (.Compare a [op] [b] pos) t:=fun pins s e H Q I hw=>wpAny_Compare1 (h pins s e H Q I hw) d
theorem Pn {op:CmpOp} {t:TE} (h:PC X op a b t) (f:behindInMarks op b=false:=by first|exact e _ (by decide) (by decide)|rfl):PT X (.Compare a [op] [b] pos) (tB t):=by
 intro pins s g H Q I hw
 refine wpAny_isTrue_Compare1 (BZ (h pins s g H _ I hw) fun v o f=>BZ f fun u p i=>BZ i fun c r j=>j.elim fun x k l m n=>?_) f
 obtain⟨d,rfl,q⟩:=n
 cases m
 exact wpAny_truthy_bool ⟨k,l,q⟩
theorem BA {e:Expr} {t:TE} (h:PE X e t) (c:∀whole,isTrue e X.env whole=(do let v<-whole;standAt e.pos;holding [v] (truthy v)):=by intro _;rfl):PT X e (tB t):=by
 intro pins s f H Q I hw
 refine isTrue_plain (BZ (h pins s f H _ I hw) fun v m g=>g.elim fun x i j k l=>?_) (c _)
 obtain⟨d,rfl,q⟩:=l
 cases k
 exact wpAny_truthy_bool ⟨i,j,q⟩
variable{tA jR:TT} {rest:List Expr}
def ki (t u:TT):TT:=fun d H Q=>t d H fun c e=>if c=true then u d e Q else Q false e
def yI (t u:TT):TT:=fun d H Q=>t d H fun c e=>if c=true then Q true e else u d e Q
def kj (t:TT):TT:=fun d H Q=>t d H fun c e=>Q (!c) e
theorem pw_and1 (d:PT X a tA):PW X (.BoolOp .And [a] pos) tA:=by
 intro g pins s f H Q I h
 refine isTrue_and (BZ (d pins s f H Q I h) fun c i e=>?_)
 cases c with
 |true=>exact isTrue_and_nil e
 |false=>exact e
theorem pw_or1 (d:PT X a tA):PW X (.BoolOp .Or [a] pos) tA:=by
 intro g pins s f H Q I h
 refine isTrue_or (BZ (d pins s f H Q I h) fun c i e=>?_)
 cases c with
 |false=>exact isTrue_or_nil e
 |true=>exact e
theorem pw_and (i:PT X a tA) (j:PW X (.BoolOp .And (b::rest) pos) jR):PW X (.BoolOp .And (a::b::rest) pos) (ki tA jR):=by
 intro k pins s d H Q I h
 refine isTrue_and (BZ (i pins s d H _ I h) fun c l m=>m.elim fun e f g=>?_)
 cases c with
 |true=>exact j k pins l d e Q f g
 |false=>exact⟨e,f,g⟩
theorem pw_or (i:PT X a tA) (j:PW X (.BoolOp .Or (b::rest) pos) jR):PW X (.BoolOp .Or (a::b::rest) pos) (yI tA jR):=by
 intro k pins s d H Q I h
 refine isTrue_or (BZ (i pins s d H _ I h) fun c l m=>m.elim fun e f g=>?_)
 cases c with
 |true=>exact⟨e,f,g⟩
 |false=>exact j k pins l d e Q f g
theorem DA (e:PT X a tA):PT X (.UnaryOp .Not a pos) (kj tA):=by
 intro pins s f H Q I h
 exact isTrue_not (BZ (e pins s f H (fun c d=>Q (!c) d) I h) fun c k g=>g.elim fun d i j=>⟨d,i,j⟩)
def eS (ta tb:TE):TE:=fun c H Q=>ta c H fun x d=>eR tb c x d Q
def kq (ta tb:TE):TE:=fun c H Q=>ta c H fun x d=>vN tb c x d Q
theorem Po {op} {t:TE} (h:PE X a t):PE X (.BoolOp op [a] pos) t:=fun pins s c H Q I hw=>BoolOp_one (h pins s c H Q I hw)
theorem UM (i:PE X a ta) (j:PE X (.BoolOp .And (b::rest) pos) tb):PE X (.BoolOp .And (a::b::rest) pos) (eS ta tb):=by
 intro pins s e H Q I h
 refine BoolOp_and (BZ (i pins s e H _ I h) fun v k l=>l.elim fun x f g m d=>?_)
 obtain⟨c,rfl,d⟩:=d
 cases m
 refine wpAny_truthy_bool ?_
 cases c with
 |true=>exact j pins k e f Q g d
 |false=>exact⟨.bl false,f,g,rfl,d⟩
theorem eT (i:PE X a ta) (j:PE X (.BoolOp .Or (b::rest) pos) tb):PE X (.BoolOp .Or (a::b::rest) pos) (kq ta tb):=by
 intro pins s e H Q I h
 refine BoolOp_or (BZ (i pins s e H _ I h) fun v k l=>l.elim fun x f g m d=>?_)
 obtain⟨c,rfl,d⟩:=d
 cases m
 refine wpAny_truthy_bool ?_
 cases c with
 |false=>exact j pins k e f Q g d
 |true=>exact⟨.bl true,f,g,rfl,d⟩
def yJ (t:TT) (ta tb:TE):TE:=fun d H Q=>t d H fun c e=>if c=true then ta d e Q else tb d e Q
theorem UN {c:Expr} (k:PT X c tA) (l:PE X a ta) (m:PE X b tb):PE X (.IfExp c a b pos) (yJ tA ta tb):=by
 intro pins s e H Q I h
 refine wpAny_IfExp (BZ (k pins s e H _ I h) fun d f n=>n.elim fun g i j=>?_)
 cases d with
 |true=>exact l pins f e g Q i j
 |false=>exact m pins f e g Q i j
end
def Ap (K:ADv) (H:Hp) (a:Addr) (xs:List V):Prop:=
 Rd H a (.lst xs)∨
  ∃(o:Obj) (b:Array Value) (n:Nat),K.lookup a=some o/\o.cls=.type "list"/\o.dict=none/\o.data=.seq b n/\b.size<=sizeLine/\Vals xs b.toList
def BY (K:ADv) (H:Hp) (a:Addr) (xs:List V):Prop:=
 Rd H a (.tup xs)∨
  ∃(o:Obj) (b:Array Value) (n:Nat),K.lookup a=some o/\o.cls=.type "tuple"/\o.data=.seq b n/\b.size<=sizeLine/\Vals xs b.toList
def kr:Value->Option V
 | .none=>some .BO
 | .bool b=>some (.bl b)
 | .int i _=>some (.int i)
 | .str x _=>some (.str x)
 | .bytes b _=>some (.NO b)
 | .float b _=>some (.dX b)
 | .ref a=>some (.ref a)
 | .type n=>some (.ty n)
 |_=>none
theorem RelV.abs {x:V} {u:Value} (r:RelV x u):kr u=some x:=by
 cases x with
 |BO=>cases r;rfl
 |bl _=>cases r;rfl
 |int _=>obtain⟨t,rfl⟩:=r;rfl
 |str _=>obtain⟨t,rfl⟩:=r;rfl
 |NO _=>obtain⟨t,rfl⟩:=r;rfl
 |dX _=>obtain⟨t,rfl⟩:=r;rfl
 |ref _=>cases r;rfl
 |ty _=>cases r;rfl
theorem RelV.inj {x y:V} {u:Value} (r:RelV x u) (q:RelV y u):x=y:=ADt (r.abs.symm.trans q.abs)
theorem Vals.inj {xs ys:List V} {us:List Value} (r:Vals xs us) (s:Vals ys us):xs=ys:=by
 induction r generalizing ys with
 |nil=>exact(List.eq_nil_of_length_eq_zero (Paired.length s)).symm
 |cons a _ b=>
  cases ys with
  |nil=>exact absurd (Paired.length s) (Nat.succ_ne_zero _).symm
  |cons y f=>
   obtain⟨u,g,e,h,t⟩:=Vals.inv s
   injection e with c d
   subst c d
   rw[a.inj h,b t]
section
variable{X:Cx} {pins:List (Addr×Obj)} {σ:St} {H:Hp} {s:Shared} {a:Addr} {xs ys:List V}
theorem Ap.of {K:ADv} (h:H a=some (.lst xs)):Ap K H a xs:=.inl (.inl h)
theorem BY.of {K:ADv} (h:H a=some (.tup xs)):BY K H a xs:=.inl (.inl h)
theorem Inv.list (I:Inv X pins σ H s) (h:Ap X.K H a xs):∃its:List Value,Vals xs its/\PlainL s.heap a its.toArray/\xs.length<=sizeLine:=by
 rcases h with h|⟨o,its,n,b,c,d,f,g,r⟩
 ·obtain⟨z,its,n,r,e⟩:=h.ok I.BS
  exact⟨its,r,⟨_,n,e,rfl,rfl,rfl⟩,z⟩
 ·refine⟨its.toList,r,⟨o,n,I.GB a o b,c,d,by simpa using f⟩,?_⟩
  have e:=r.length
  simp only[Array.length_toList]at e
  lia
theorem Inv.tuple (I:Inv X pins σ H s) (h:BY X.K H a xs):∃its:List Value,Vals xs its/\IsTup s.heap a its.toArray/\xs.length<=sizeLine:=by
 rcases h with h|⟨o,its,n,b,c,d,f,r⟩
 ·obtain⟨z,its,r,p⟩:=h.ok I.BS
  exact⟨its,r,p,z⟩
 ·refine⟨its.toList,r,⟨o,I.GB a o b,c,n,by simpa using d⟩,?_⟩
  have e:=r.length
  simp only[Array.length_toList]at e
  lia
theorem Inv.UO (I:Inv X pins σ H s) (h:Ap X.K H a xs) (h':Ap X.K H a ys):xs=ys:=by
 obtain⟨c,r,⟨o,n,e,_,_,d⟩,_⟩:=I.list h
 obtain⟨b,i,⟨k,l,f,_,_,g⟩,_⟩:=I.list h'
 rw[e]at f;cases f
 rw[d]at g
 injection g with j _
 have:c=b:=by simpa using congrArg Array.toList j
 subst this
 exact r.inj i
theorem Inv.Se (I:Inv X pins σ H s) (h:BY X.K H a xs) (h':BY X.K H a ys):xs=ys:=by
 obtain⟨c,r,⟨o,e,_,n,d⟩,_⟩:=I.tuple h
 obtain⟨b,i,⟨k,f,_,l,g⟩,_⟩:=I.tuple h'
 rw[e]at f;cases f
 rw[d]at g
 injection g with j _
 have:c=b:=by simpa using congrArg Array.toList j
 subst this
 exact r.inj i
end
abbrev Cx.Kg (X:Cx) (E:Value->Shared->Prop):Cx:={X with xe:=E}
abbrev Cx.jS (X:Cx):Cx:=X.Kg fun _ _=>False
theorem Cx.Ok.Kg {X:Cx} (ok:X.Ok) (E:Value->Shared->Prop):(X.Kg E).Ok:=
 ⟨ok.mod,ok.kind,ok.glob,ok.blt,ok.above,ok.inj,ok.has,ok.eP,ok.hd,ok.frames,ok.jO,ok.jP,ok.bs,ok.Zg,ok.UK,ok.UL,ok.Iv,ok.dY⟩
theorem Cx.Ok.En {X:Cx} {E:Value->Shared->Prop} (ok:(X.Kg E).Ok):X.Ok:=
 ⟨ok.mod,ok.kind,ok.glob,ok.blt,ok.above,ok.inj,ok.has,ok.eP,ok.hd,ok.frames,ok.jO,ok.jP,ok.bs,ok.Zg,ok.UK,ok.UL,ok.Iv,ok.dY⟩
section
variable{X:Cx} {pins:List (Addr×Obj)} {σ:St} {H:Hp} {s:Shared} {E:Value->Shared->Prop}
theorem Inv.Kg (I:Inv X pins σ H s) (E:Value->Shared->Prop):Inv (X.Kg E) pins σ H s:=⟨I.ok.Kg E,I.os,I.bare,I.base,I.loc,I.cell,I.free,I.DS,I.pin,I.BS,I.len⟩
theorem Inv.En (I:Inv (X.Kg E) pins σ H s):Inv X pins σ H s:=⟨I.ok.En,I.os,I.bare,I.base,I.loc,I.cell,I.free,I.DS,I.pin,I.BS,I.len⟩
theorem SP.En {D:Ends} {f:Flow} {c:Shared} (h:SP (X.Kg E) pins D f c):SP X pins D f c:=by
 cases f with
 |next=>obtain⟨a,b,I,q⟩:=h;exact⟨a,b,I.En,q⟩
 |brk=>obtain⟨a,b,I,q⟩:=h;exact⟨a,b,I.En,q⟩
 |cont=>obtain⟨a,b,I,q⟩:=h;exact⟨a,b,I.En,q⟩
 |ret u=>obtain⟨v,a,b,I,r,q⟩:=h;exact⟨v,a,b,I.En,r,q⟩
theorem Sd.jS {st:List Stmt} {t:TS} (h:Sd X.jS st t):Sd X st t:=fun pins s σ H D I hw=>
 wpAny_mono (h pins s σ H D (I.Kg _) hw) (fun _ _ q=>q.En) fun _ _ z=>False.elim z
end
section
variable{X:Cx} {st:Stmt} {rest:List Stmt} {t u:TS} {e:Expr} {te:TE} {pos:Pos}
def Zi:TS:=fun D a H=>D.nx a H
def Pp (t u:TS):TS:=fun D a H=>t {D with nx:=u D} a H
theorem AQ:Sd X [] Zi:=fun _ _ a H _ I h=>wpAny_execs_nil ⟨a,H,I,h⟩
theorem AF (b:PS X st t) (c:Sd X rest u):Sd X (st::rest) (Pp t u):=by
 intro pins s d H D I h
 refine wpAny_execs_cons (BZ (b pins s d H {D with nx:=u D} I h) fun f g q=>?_)
 cases f with
 |next=>
  obtain⟨a,i,j,q⟩:=q
  exact c pins g a i D j q
 |ret v=>exact q
 |brk=>exact q
 |cont=>exact q
theorem AH (a:PS X st t):Sd X [st] t:=by
 intro pins s b H D I h
 refine wpAny_execs_cons (BZ (a pins s b H D I h) fun f c q=>?_)
 cases f with
 |next=>exact wpAny_execs_nil q
 |ret v=>exact q
 |brk=>exact q
 |cont=>exact q
theorem Inv.quiet {pins:List (Addr×Obj)} {σ:St} {H:Hp} {s:Shared} (I:Inv X pins σ H s):interactive X.env=false:=by simp[interactive,I.ok.kind]
def eU (te:TE):TS:=fun D a H=>te a H fun _ b=>D.nx a b
theorem Cs (b:PE X e te) (c:swapsWith e none pos.line X.env=pure false:=by rfl):PS X (.Expr e pos) (eU te):=by
 intro pins s a H D I h
 exact wpAny_Expr_any (BZ (b pins s a H _ I h) fun v j d=>d.elim fun x f g k i=>⟨a,f,g,i⟩) I.quiet c
def eV (te:TE):TS:=fun D a H=>te a H D.rt
theorem AN (b:PE X e te):PS X (.Return (some e) pos) (eV te):=by
 intro pins s a H D I h
 exact wpAny_Return_some (BZ (b pins s a H _ I h) fun v j c=>c.elim fun x d f g i=>⟨x,a,d,f,g,i⟩)
def Pq (c:TT) (t u:TS):TS:=fun D a H=>c a H fun b d=>if b=true then t D a d else u D a d
theorem Ai {c:Expr} {a b:List Stmt} {g:TT} (m:PT X c g) (n:Sd X a t) (o:Sd X b u):PS X (.If c a b pos) (Pq g t u):=by
 intro pins s f H D I h
 refine wpAny_If (BZ (m pins s f H _ I h) fun d i p=>p.elim fun j k l=>?_)
 cases d with
 |true=>exact n pins i f j D k l
 |false=>exact o pins i f j D k l
end
abbrev TG:=V->St->Hp->(St->Hp->Prop)->Prop
abbrev Xd:=List V->St->Hp->(St->Hp->Prop)->Prop
def PG (X:Cx) (target:Expr) (t:TG):Prop:=
 ∀(pins:List (Addr×Obj)) (s:Shared) (b:St) (H:Hp) (v:V) (u:Value) (Q:St->Hp->Prop),Inv X pins b H s->RelV v u->t v b H Q->
  wpAny (model X.prog X.w) X.A (assign target X.env u) (fun _ d=>∃a c,Inv X pins a c d/\Q a c) X.xe s
def jT (X:Cx) (ts:List Expr) (t:Xd):Prop:=
 ∀(pins:List (Addr×Obj)) (s:Shared) (b:St) (H:Hp) (c:List V) (d:List Value) (Q:St->Hp->Prop),Inv X pins b H s->Vals c d->t c b H Q->
  wpAny (model X.prog X.w) X.A (assignInOrder ((assignEach ts X.env).map (·.2)) d) (fun _ f=>∃a e,Inv X pins a e f/\Q a e) X.xe s
abbrev au:=V->V->V->Hp->(Hp->Prop)->Prop
def eW (X:Cx) (t:au):Prop:=
 ∀(pins:List (Addr×Obj)) (s:Shared) (a:St) (H:Hp) (o i v:V) (ov b u:Value) (Q:Hp->Prop),Inv X pins a H s->RelV o ov->RelV i b->RelV v u->t o i v H Q->
  wpAny (model X.prog X.w) X.A (setItem ov b u) (fun _ d=>∃c,Inv X pins a c d/\Q c) X.xe s
abbrev yK:=V->V->Hp->VK->Prop
section
variable{X:Cx} {pos:Pos}
def Eo (i:Nat):TG:=fun v a H Q=>Q (a.set i (some v)) H
theorem Bh {i:Nat} {x:Str} (a:X.N.Nodup) (b:X.N[i]?=some x) (c:Loc X.env.scope x) (d:X.fn x=true∨X.env.scope.names.lookup x=some .local:=by first|exact .inl rfl|exact .inr rfl|assumption):PG X (.Name x pos) (Eo i):=by
 intro pins s f H v u Q I r h
 exact wpAny_assign_Name (NQ I a b c r (fun g e=>⟨_,H,e,h⟩) d)
def ku:Xd:=fun a b H Q=>a=[]/\Q b H
inductive UP (t:TG) (u:Xd) (vs:List V) (σ:St) (H:Hp) (Q:(St->Hp->Prop)):Prop
 |mk (v:_) (r:_) (c:vs=v::r) (d:t v σ H fun a b=>u r a b Q):UP t u vs σ H Q
def eX (t:TG) (u:Xd):Xd:=fun a b H Q=>UP t u a b H Q
theorem Xe:jT X [] ku:=by
 intro pins s a H b c Q I r h
 obtain⟨e,h⟩:=h
 subst e
 cases r
 exact assignInOrder_nil ⟨a,H,I,h⟩
theorem NR {e:Expr} {es:List Expr} {t:TG} {u:Xd} (b:PG X e t) (c:jT X es u)
  (d:(assignEach (e::es) X.env).map (·.2)=assign e X.env::(assignEach es X.env).map (·.2):=by rfl):jT X (e::es) (eX t u):=by
 intro pins s f H n o Q I r h
 obtain⟨v,p,g,h⟩:=h
 subst g
 cases r with
 |cons r i=>
  rw[d]
  refine assignInOrder_cons (BZ (b pins s f H _ _ _ I r h) fun _ j ⟨a,k,l,m⟩=>?_)
  exact c pins j a k _ _ Q l i m
inductive Zj (K:ADv) (n:Nat) (t:Xd) (v:V) (σ:St) (H:Hp) (Q:(St->Hp->Prop)):Prop
 |mk (a:_) (xs:_) (b:v=.ref a) (c:BY K H a xs) (d:xs.length=n) (e:t xs σ H Q):Zj K n t v σ H Q
def kv (K:ADv) (n:Nat) (t:Xd):TG:=fun v a H Q=>Zj K n t v a H Q
theorem av {es:List Expr} {k:Nat} {t:Xd} {n:Nat} (g:X.calm=true) (h:jT X es t)
  (i:(assignEach es X.env).length=n:=by rfl) (c:(assignEach es X.env).findIdx? (·.1)=none:=by rfl):PG X (.Tuple es k pos) (kv X.K n t):=by
 intro pins s d H v u Q I r hw
 obtain⟨a,j,l,m,p,hw⟩:=hw
 subst l
 cases r
 obtain⟨q,f,w,A⟩:=I.tuple m
 refine assign_Tuple_tuple (I.ok.hd g) w (by simp[i,<-p,f.length]) c fun x y=>?_
 have z:Inv X pins d H {s with heap:=x}:=I.kept (t':=s.toks) fun b o e=>y b o (Nat.ne_of_lt (Heap.lt_size e)) e
 exact h pins _ d H j _ Q z (by simpa using f) hw
def kx (b c:TE) (t:au):TG:=fun v a H Q=>b a H fun o d=>c a d fun i e=>t o i v e fun f=>Q a f
theorem UQ {o i:Expr} {d e:TE} {t:au} (f:PE X o d) (g:PE X i e) (j:eW X t)
  (k:∀v,assign (.Subscript o i pos) X.env v=(do
   let ov<-holding [v] (eval o X.env)
   let a<-holding [v,ov] (eval i X.env)
   standAt pos
   holding [v,ov,a] (setItem ov a v)
   release [v,ov,a] []):=by intro _;rfl):PG X (.Subscript o i pos) (kx d e t):=by
 intro pins s b H v u Q I r h
 rw[k]
 refine wpAny_bind (wpAny_holding (BZ (f pins s b H _ I h) fun ov l c=>c.elim fun x m n p q=>?_))
 refine wpAny_bind (wpAny_holding (BZ (g pins l b m _ n q) fun a w c=>c.elim fun y z A B C=>?_))
 refine wpAny_bind (wpAny_standAt (wpAny_bind (wpAny_holding (BZ (j pins w b z x y v ov a u _ A p B r C) fun _ G ⟨D,E,F⟩=>?_))))
 exact wpAny_release ⟨b,D,E,F⟩
def aw (b:TE) (g:TG):TS:=fun D a H=>b a H fun x c=>g x a c D.nx
theorem UR {a e:Expr} {c:TE} {g:TG} (f:PE X e c) (i:PG X a g) (j:swapsWithSole [a] e pos.line X.env=pure false:=by rfl) (hw:swappedStores [a] e X.env=pure none:=by rfl)
  (k:(assignEach [a] X.env).map (·.2)=[assign a X.env]:=by rfl):PS X (.Assign [a] e pos) (aw c g):=by
 intro pins s d H D I h
 refine wpAny_Assign_stores (BZ (f pins s d H _ I h) fun v l m=>m.elim fun x n o p q=>?_) j hw
 rw[k]
 exact BZ (i pins l d n x v _ o p q) fun _ w ⟨b,r,t,u⟩=>⟨b,r,t,u⟩
theorem AY {i:Nat} {x:Str} {e:Expr} {a:TE} {pos':Pos} (b:X.N.Nodup) (c:X.N[i]?=some x) (d:Loc X.env.scope x) (f:PE X e a) (g:swapsWith e (some (.Name x pos')) pos.line X.env=pure false:=by rfl) (j:X.fn x=true∨X.env.scope.names.lookup x=some .local:=by first|exact .inl rfl|exact .inr rfl|assumption):
  PS X (.Assign [.Name x pos'] e pos) (aw a (Eo i)):=by
 intro pins s k H D I h
 refine wpAny_Assign_Name (BZ (f pins s k H _ I h) fun v r l=>l.elim fun y m n o p=>?_) g
 exact NQ n b c d o (fun t q=>⟨_,m,q,p⟩) j
inductive eY (i:Nat) (a:TE) (b:yK) (D:Ends) (σ:St) (H:Hp):Prop
 |mk (x:_) (d:σ[i]?=some (some x)) (e:a σ H fun y c=>b x y c fun z H2=>D.nx (σ.set i (some z)) H2):eY i a b D σ H
inductive ky (f:Int->Int->Int) (x:V) (y:V) (H:Hp) (Q:VK):Prop
 |mk (i:_) (j:_) (a:x=.int i) (b:y=.int j) (c:Q (.int (f i j)) H):ky f x y H Q
end
section
variable{X:Cx} {pos:Pos}
inductive RG (c:TT) (d:TS) (D:Ends) (σ:St) (H:Hp):Prop
 |mk (W:Nat->St->Hp->Prop) (h:(∃m,W m σ H)) (i:∀m σ H,W m σ H->c σ H fun b e=>if b=true then∃N:St->Hp->Prop,(∀a f,N a f->∃g,g<m/\W g a f)/\d {D with nx:=N,ct:=N,bk:=D.nx} σ e else D.nx σ e):RG c d D σ H
def US (c:TT) (a:TS):TS:=fun D b H=>RG c a D b H
theorem NS {c:Expr} {body:List Stmt} {q:TT} {r:TS} (t:PassesOwn (model X.prog X.w) X.A X.env X.xe) (C:PT X c q) (E:Sd X body r):PS X (.While c body [] pos) (US q r):=by
 intro pins s F H D I h
 obtain⟨W,⟨G,J⟩,turn⟩:=h
 refine wpAny_While (codeAny_whileLoop (fun n K=>∃e u,Inv X pins e u K/\W n e u) ?_ G ⟨F,H,I,J⟩)
 rintro n L ⟨d,x,M,O⟩
 refine wpAny_passesOwn t (BZ (C pins L d x _ M (turn n d x O)) fun b P Q=>Q.elim fun y z i=>?_)
 cases b with
 |true=>
  obtain⟨N,B,i⟩:=i
  rw[if_pos rfl]
  refine wpAny_passesOwn t (BZ (E pins P d y _ z i) fun f R j=>?_)
  cases f with
  |next=>
   obtain⟨a,g,k,l⟩:=j
   obtain⟨m,o,p⟩:=B a g l
   exact⟨m,o,a,g,k,p⟩
  |cont=>
   obtain⟨a,g,k,l⟩:=j
   obtain⟨m,o,p⟩:=B a g l
   exact⟨m,o,a,g,k,p⟩
  |brk=>exact j
  |ret v=>exact j
 |false=>
  rw[if_neg Bool.false_ne_true]
  exact wpAny_execs_nil ⟨d,y,z,i⟩
end
structure It where
 go:Nat->Hp->Prop
 Sf:Nat->Hp->V->Hp->Prop
 stop:Nat->Hp->Prop
def Gz (X:Cx) (pins:List (Addr×Obj)) (H:Hp) (b:Addr):Prop:=
 H b=none/\b≠X.env.locals/\b∉X.fs/\(b∈X.ex∨X.s₀.heap.objs.size<=b)/\(∀x c,X.env.cells.lookup x=some c->c≠b)/\∀p∈X.pn++pins,p.1≠b
theorem Inv.Sg {X:Cx} {pins:List (Addr×Obj)} {σ:St} {H d:Hp} {s:Shared} {b:Addr} (I:Inv X pins σ H s) (a:s.heap.objs.size<=b) (f:d b=none):Gz X pins d b:=by
 refine⟨f,Nat.ne_of_gt (Nat.lt_of_lt_of_le I.lt a),I.kY a,.inr (Nat.le_trans I.sz a),fun x c e z=>?_,fun p g z=>?_⟩
 ·obtain⟨v,q⟩:=I.cell x c e
  exact absurd (Nat.lt_of_lt_of_le q.lt (by rw[z];exact a)) (Nat.lt_irrefl _)
 ·exact absurd (Nat.lt_of_lt_of_le (Heap.lt_size (I.pin p g).1) (by rw[z];exact a)) (Nat.lt_irrefl _)
structure Turn (P:Program) (w:World) (K:ADv) (tg:Expr) (J:It) (fp:List Addr) (it:Addr) (tn:Nat->Heap->Prop):Prop where
 mem:it∈fp
 obj:∀i h,tn i h->∀b∈fp,∃o,h.get? b=some o/\∀v,o.data≠.cell v
 keep:∀i h h',tn i h->(∀b∈fp,∀o,h.get? b=some o->h'.get? b=some o)->tn i h'
 item:∀(X:Cx),X.prog=P->X.w=w->X.K=K->X.calm=true->∀(i:Nat) (pins:List (Addr×Obj)) (s:Shared) (σ:St) (H:Hp) (E:Value->Shared->Prop),Inv X pins σ H s->(∀b∈fp,Gz X pins H b)->tn i s.heap->J.go i H->
  wpAny (model P w) X.A (pyNext (.ref it)) (fun r s1=>∃u,r=some u/\
   wpAny (model P w) X.A (letOwnedTupleGo tg (.ref it) u) (fun _ s2=>∃x H',Inv X pins σ H' s2/\RelV x u/\J.Sf i H x H'/\tn (i+1) s2.heap/\∀b∈fp,H' b=none) E s1) E s
 done:∀(X:Cx),X.prog=P->X.w=w->X.K=K->X.calm=true->∀(i:Nat) (pins:List (Addr×Obj)) (s:Shared) (σ:St) (H:Hp) (E:Value->Shared->Prop),Inv X pins σ H s->(∀b∈fp,Gz X pins H b)->tn i s.heap->J.stop i H->
  wpAny (model P w) X.A (pyNext (.ref it)) (fun r s1=>r=none/\Inv X pins σ H s1) E s
 self:∀(A:Around) (i:Nat) (s:Shared) (Q:Value->Shared->Prop) (E:Value->Shared->Prop),tn i s.heap->Q (.ref it) s->wpAny (model P w) A (pyIter (.ref it)) Q E s
abbrev TI:=St->Hp->(It->Hp->Prop)->Prop
inductive jU (X:Cx) (pins:List (Addr×Obj)) (σ:St) (g:Expr) (R:It->Hp->Prop) (a:Value) (c:Shared):Prop
 |mk (h:Addr) (i:List Addr) (j:Nat->Heap->Prop) (J:It) (d:Hp) (e:a=.ref h) (I:Inv X pins σ d c) (t:Turn X.prog X.w X.K g J i h j) (z:j 0 c.heap) (f:∀b∈i,Gz X pins d b) (q:R J d):jU X pins σ g R a c
def PI (X:Cx) (b iter:Expr) (c:TI):Prop:=
 ∀(pins:List (Addr×Obj)) (s:Shared) (a:St) (H:Hp) (R:It->Hp->Prop),Inv X pins a H s->c a H R->
  wpAny (model X.prog X.w) X.A (eval iter X.env) (fun v d=>wpAny (model X.prog X.w) X.A (pyIter v) (jU X pins a b R) X.xe d) X.xe s
theorem NT {M:Model} {A:Around} {E:Value->Shared->Prop} {s:Shared} {b:Expr} {c:Addr} {u:Value} {o:Obj} {n:String} {vs:Array Value} {Q:Unit->Shared->Prop} (d:s.heap.get? c=some o) (e:o.cls=.type n) (f:o.data=.fields vs)
  (g:["enumerate","zip","dict_itemiterator","dict_reverseitemiterator","odict_iterator","itertools.zip_longest","itertools.pairwise"].contains n=false) (a:Q () s):wpAny M A (letOwnedTupleGo b (.ref c) u) Q E s:=by
 unfold letOwnedTupleGo
 cases b<;>first
  |exact wpAny_pure a
  |(cases u<;>first
    |exact wpAny_pure a
    |(refine wpAny_bind (wpAny_load d ?_)
      rw[e,f]
      show wpAny M A (if(["enumerate","zip","dict_itemiterator","dict_reverseitemiterator","odict_iterator","itertools.zip_longest","itertools.pairwise"].contains n&&vs[0]?==some (rawInt _))=true then _ else _) Q E s
      rw[if_neg (by intro h;rw[g,Bool.false_and]at h;cases h)]
      exact wpAny_pure a))
def eZ (K:ADv) (a:Addr):It:=
 ⟨fun i H=>∃b x,Ap K H a b/\b[i]?=some x,fun i H x c=>c=H/\∀b,Ap K H a b->b[i]?=some x,fun i H=>∃b,Ap K H a b/\b.length<=i⟩
def en (K:ADv) (a:Addr):It:=
 ⟨fun i H=>∃b x,BY K H a b/\b[i]?=some x,fun i H x c=>c=H/\∀b,BY K H a b->b[i]?=some x,fun i H=>∃b,BY K H a b/\b.length<=i⟩
def dZ (lo:Int) (n:Nat):It:=⟨fun i _=>i<n,fun i H x a=>a=H/\x=.int (lo+i),fun i _=>n<=i⟩
theorem Sh {P:Program} {w:World} {K:ADv} {tg:Expr} (a it:Addr):Turn P w K tg (eZ K a) [it] it (fun i h=>h.IsListIter it a i)where
 mem:=by simp
 obj:=fun i h st b hb=>by
  have e:b=it:=by simpa using hb
  subst e
  obtain⟨o,e,c,d⟩:=st
  exact⟨o,e,fun v z=>by rw[d]at z;cases z⟩
 keep:=fun i h h' st k=>st.at fun o e=>k it (by simp) o e
 item:=by
  intro X hP hw hK hc i pins s σ H E I hf st hg
  subst hP hw hK
  obtain⟨xs,x,hq,hx⟩:=hg
  obtain⟨its,rv,p,hz⟩:=I.list hq
  obtain⟨u,hu,ru⟩:=rv.get hx
  obtain⟨f0,f1,f2,f3,f4,f5⟩:=hf it (by simp)
  refine wpAny_pyNext_list_item st p.isList (x:=u) (by simpa using hu) fun h' RH sb=>?_
  have I1:Inv X pins σ H {s with heap:=h'}:=I.turned (t':=s.toks) (fun b o hb e=>(sb.2 b hb).trans e) f0 f1 f3 f4 f5
  obtain⟨o,e,c,d⟩:=id RH
  exact⟨u,rfl,NT (s:={s with heap:=h'}) e c d (by decide) ⟨x,H,I1,ru,⟨rfl,fun ys hy=>by rw[I.UO hy hq];exact hx⟩,RH,fun b hb=>(hf b hb).1⟩⟩
 done:=by
  intro X hP hw hK hc i pins s σ H E I hf st hg
  subst hP hw hK
  obtain⟨xs,hq,hx⟩:=hg
  obtain⟨its,rv,p,hz⟩:=I.list hq
  obtain⟨f0,f1,f2,f3,f4,f5⟩:=hf it (by simp)
  have hl:=rv.length
  exact wpAny_pyNext_list_end (I.ok.hd hc) st p.isList (by simp;lia) fun h' eb=>⟨rfl,I.turned (t':=s.toks) (fun b o hb e=>eb b o hb e) f0 f1 f3 f4 f5⟩
 self:=fun _ _ _ _ _ st h=>wpAny_pyIter_listiter st h
theorem Pr {P:Program} {w:World} {K:ADv} {tg:Expr} (a it:Addr):Turn P w K tg (en K a) [it] it (fun i h=>h.IsTupleIter it a i)where
 mem:=by simp
 obj:=fun i h st b hb=>by
  have e:b=it:=by simpa using hb
  subst e
  obtain⟨o,e,c,d⟩:=st
  exact⟨o,e,fun v z=>by rw[d]at z;cases z⟩
 keep:=fun i h h' st k=>st.at fun o e=>k it (by simp) o e
 item:=by
  intro X hP hw hK hc i pins s σ H E I hf st hg
  subst hP hw hK
  obtain⟨xs,x,hq,hx⟩:=hg
  obtain⟨its,rv,p,hz⟩:=I.tuple hq
  obtain⟨u,hu,ru⟩:=rv.get hx
  obtain⟨f0,f1,f2,f3,f4,f5⟩:=hf it (by simp)
  refine wpAny_pyNext_tuple_item st (show s.heap.IsTuple a its.toArray from p) (x:=u) (by simpa using hu) fun h' RH sb=>?_
  have I1:Inv X pins σ H {s with heap:=h'}:=I.turned (t':=s.toks) (fun b o hb e=>(sb.2 b hb).trans e) f0 f1 f3 f4 f5
  obtain⟨o,e,c,d⟩:=id RH
  exact⟨u,rfl,NT (s:={s with heap:=h'}) e c d (by decide) ⟨x,H,I1,ru,⟨rfl,fun ys hy=>by rw[I.Se hy hq];exact hx⟩,RH,fun b hb=>(hf b hb).1⟩⟩
 done:=by
  intro X hP hw hK hc i pins s σ H E I hf st hg
  subst hP hw hK
  obtain⟨xs,hq,hx⟩:=hg
  obtain⟨its,rv,p,hz⟩:=I.tuple hq
  obtain⟨f0,f1,f2,f3,f4,f5⟩:=hf it (by simp)
  have hl:=rv.length
  exact wpAny_pyNext_tuple_end (I.ok.hd hc) st (show s.heap.IsTuple a its.toArray from p) (by simp;lia) fun h' eb=>⟨rfl,I.turned (t':=s.toks) (fun b o hb e=>eb b o hb e) f0 f1 f3 f4 f5⟩
 self:=fun _ _ _ _ _ st h=>wpAny_pyIter_tupleiter st h
theorem Pu {P:Program} {w:World} {K:ADv} {tg:Expr} (it:Addr) (lo:Int) (n:Nat):Turn P w K tg (dZ lo n) [it] it (fun i h=>IsRangeIter h it (lo+(i:Nat)*1) ((n:Int)-(i:Nat)) 1)where
 mem:=by simp
 obj:=fun i h st b hb=>by
  have e:b=it:=by simpa using hb
  subst e
  exact⟨_,st,fun v z=>by
   have z':Data.fields _=Data.cell v:=z
   cases z'⟩
 keep:=fun i h h' st k=>k it (by simp) _ st
 item:=by
  intro X hP hw hK hc i pins s σ H E I hf st hg
  subst hP hw hK
  obtain⟨f0,f1,f2,f3,f4,f5⟩:=hf it (by simp)
  have W:=Walks.range (prog:=X.prog) (w:=X.w) (I.ok.hd hc) it lo 1 n
  refine W.item i s _ _ hg st fun v h' tk hv RH kk=>?_
  obtain⟨t,rfl⟩:=hv
  have I1:Inv X pins σ H {s with heap:=h',toks:=tk}:=I.turned (fun b o hb e=>kk b o (by simpa using hb) e) f0 f1 f3 f4 f5
  refine⟨_,rfl,NT (s:={s with heap:=h',toks:=tk}) (n:="range_iterator") RH rfl rfl (by decide) ⟨.int (lo+i),H,I1,⟨t,?_⟩,⟨rfl,rfl⟩,RH,fun b hb=>(hf b hb).1⟩⟩
  rw[Int.mul_one]
 done:=by
  intro X hP hw hK hc i pins s σ H E I hf st hg
  subst hP hw hK
  obtain⟨f0,f1,f2,f3,f4,f5⟩:=hf it (by simp)
  exact wpAny_pyNext_range_end (I.ok.hd hc) st (by have:n<=i:=hg;lia) fun h' eb=>⟨rfl,I.turned (t':=s.toks) (fun b o hb e=>eb b o hb e) f0 f1 f3 f4 f5⟩
 self:=fun _ _ _ _ _ st h=>wpAny_pyIter_rangeiter st h
section
variable{X:Cx} {tg:Expr}
def eo (K:ADv) (c:TE):TI:=fun d H R=>c d H fun x b=>∃a,x=.ref a/\(∃e,Ap K b a e)/\R (eZ K a) b
def k_ (K:ADv) (c:TE):TI:=fun d H R=>c d H fun x b=>∃a,x=.ref a/\(∃e,BY K b a e)/\R (en K a) b
theorem Bk {l:Expr} {f:TE} (hl:PE X l f):PI X tg l (eo X.K f):=by
 intro pins s g H R I h
 refine BZ (hl pins s g H _ I h) fun v c i=>i.elim fun x j d k m=>?_
 obtain⟨a,e,⟨u,n⟩,q⟩:=m
 subst e
 cases k
 obtain⟨r,w,p,y⟩:=d.list n
 refine wpAny_pyIter_list p.isList ?_
 refine⟨c.heap.objs.size,[c.heap.objs.size],_,_,j,rfl,d.kept (t':=c.toks) fun b o e=>Heap.get?_push_of_some _ e,Sh a _,⟨_,Heap.get?_push_size _ rfl,rfl,rfl⟩,fun b t=>?_,q⟩
 have e:b=c.heap.objs.size:=by simpa using t
 subst e
 exact d.Sg (Nat.le_refl _) (d.BS.fresh (Nat.le_refl _))
theorem MD {l:Expr} {g:TE} (hl:PE X l g):PI X tg l (k_ X.K g):=by
 intro pins s i H R I h
 refine BZ (hl pins s i H _ I h) fun v c j=>j.elim fun x k d m n=>?_
 obtain⟨a,e,⟨u,r⟩,q⟩:=n
 subst e
 cases m
 obtain⟨f,w,p,y⟩:=d.tuple r
 refine wpAny_pyIter_tuple (show c.heap.IsTuple a f.toArray from p) ?_
 refine⟨c.heap.objs.size,[c.heap.objs.size],_,_,k,rfl,d.kept (t':=c.toks) fun b o e=>Heap.get?_push_of_some _ e,Pr a _,⟨_,Heap.get?_push_size _ rfl,rfl,rfl⟩,fun b t=>?_,q⟩
 have e:b=c.heap.objs.size:=by simpa using t
 subst e
 exact d.Sg (Nat.le_refl _) (d.BS.fresh (Nat.le_refl _))
theorem UT {pins:List (Addr×Obj)} {σ:St} {H:Hp} {s:Shared} {R:It->Hp->Prop} {E:Value->Shared->Prop} {lo a:Int} {t u v:Tok} {tk:Nat} (I:Inv X pins σ H s) (d: -(2 ^ 62)<=lo) (f:lo<2 ^ 62) (g: -(2 ^ 62)<=a) (h4:a<2 ^ 62)
  (q:R (dZ lo (a-lo).toNat) H):wpAny (model X.prog X.w) X.A (pyIter (.ref s.heap.objs.size)) (jU X pins σ tg R) E {s with heap:=s.heap.push {cls:=.type "range",data:=.fields #[.int lo t,.int a u,.int 1 v]},toks:=tk}:=by
 refine wpAny_pyIter_range (IsRange.new ..) (small_one d f g h4) ?_
 have c:Inv X pins σ H {s with heap:=s.heap.push {cls:=.type "range",data:=.fields #[.int lo t,.int a u,.int 1 v]},toks:=tk}:=I.kept fun b o e=>Heap.get?_push_of_some _ e
 refine⟨(s.heap.push {cls:=.type "range",data:=.fields #[.int lo t,.int a u,.int 1 v]}).objs.size,[(s.heap.push {cls:=.type "range",data:=.fields #[.int lo t,.int a u,.int 1 v]}).objs.size],_,_,H,rfl,
  c.kept (t':=tk) fun b o e=>Heap.get?_push_of_some _ e,Pu _ lo (a-lo).toNat,?_,fun b h=>?_,q⟩
 ·have i:lo+((0:Nat):Int)*1=lo:=by simp
  have j:(((a-lo).toNat:Nat):Int)-((0:Nat):Int)=Builtin.Range.rangeSize lo a 1:=by rw[rangeSize_one];split<;>lia
  show IsRangeIter _ _ (lo+((0:Nat):Int)*1) ((((a-lo).toNat:Nat):Int)-((0:Nat):Int)) 1
  rw[i,j]
  exact Heap.get?_push_size _ rfl
 ·have e:b=(s.heap.push {cls:=.type "range",data:=.fields #[.int lo t,.int a u,.int 1 v]}).objs.size:=by simpa using h
  subst e
  exact c.Sg (Nat.le_refl _) (c.BS.fresh (Nat.le_refl _))
def Zk (a:TA):TI:=fun b H R=>a b H fun c d=>∃j:Int,c=[.int j]/\ -(2 ^ 62)<=j/\j<2 ^ 62/\R (dZ 0 j.toNat) d
theorem Bc {a:Expr} {c:TA} {p pos:Pos} (d:Gl X "range") (f:X.mg "range"=none) (g:PA X [a] c) (i:starEach [a] X.env=[(false,eval a X.env)]:=by rfl):PI X tg (.Call (.Name "range" p) [a] [] pos) (Zk c):=by
 intro pins s k H R I h
 refine Call_ (Em I d f boot_range (PyProof.Rows.callWith_type1 (BZ (g pos pins s k H _ I h) fun v w l=>l.elim fun x y m n b=>?_) i rfl))
 obtain⟨j,e,b,o,q⟩:=b
 subst e
 cases n with
 |cons r u=>
  cases u
  obtain⟨t,rfl⟩:=r
  exact call_range_1 (UT m (by lia) (by lia) b o (by simpa using q))
def lA (f:TI) (g:TG) (h:TS):TS:=fun D a H=>f a H fun J j=>∃W:Nat->Nat->St->Hp->Prop,(∃m,W 0 m a j)/\∀i m a H,W i m a H->
 (J.stop i H/\D.nx a H)∨(J.go i H/\∃N:St->Hp->Prop,(∀b c,N b c->∃e,e<m/\W (i+1) e b c)/\∀x c,J.Sf i H x c->g x a c fun d k=>h {D with nx:=N,ct:=N,bk:=D.nx} d k)
def Iw (a:List Addr) (h:Heap):List (Addr×Obj):=a.filterMap fun b=>(h.get? b).map fun o=>(b,o)
theorem EJ {a:List Addr} {h:Heap} {b:Addr} {o:Obj} (c:b∈a) (e:h.get? b=some o):(b,o)∈Iw a h:=List.mem_filterMap.mpr ⟨b,c,by rw[e];rfl⟩
theorem Si {a:List Addr} {h:Heap} {p:Addr×Obj} (c:p∈Iw a h):p.1∈a/\h.get? p.1=some p.2:=by
 obtain⟨b,d,e⟩:=List.mem_filterMap.mp c
 cases q:h.get? b with
 |none=>rw[q]at e;cases e
 |some o=>
  rw[q]at e
  have f:(b,o)=p:=ADt e
  subst f
  exact⟨d,q⟩
theorem Inv.pinned {pins:List (Addr×Obj)} {σ:St} {H:Hp} {s:Shared} {a:List Addr} (I:Inv X pins σ H s) (g:∀b∈a,Gz X pins H b) (h:∀b∈a,∃o,s.heap.get? b=some o/\∀v,o.data≠.cell v):Inv X (pins++Iw a s.heap) σ H s:=
 I.RE fun p i=>(List.mem_append.mp i).elim (fun z=>I.pin p (List.mem_append_right _ z)) fun z=>by
  obtain⟨c,e⟩:=Si z
  obtain⟨j,k,l,_⟩:=g p.1 c
  obtain⟨o,f,d⟩:=h p.1 c
  rw[e]at f;cases f
  exact⟨e,j,k,l,d⟩
theorem Inv.Ep {pins pl:List (Addr×Obj)} {σ:St} {H:Hp} {s:Shared} (I:Inv X (pins++pl) σ H s):Inv X pins σ H s:=I.RE fun p a=>I.pin p (List.mem_append_right _ (List.mem_append_left _ a))
theorem CD {iter:Expr} {body:List Stmt} {S:TI} {g:TG} {U:TS} {pos:Pos} (B:PassesOwn (model X.prog X.w) X.A X.env X.xe) (V:X.calm=true) (hi:PI X tg iter S) (hg:PG X tg g) (c:Sd X body U)
  (hs:∀x,foldedSetIterable iter X.env x=pure x:=by intro _;rfl):PS X (.For tg iter body [] pos) (lA S g U):=by
 intro pins s Y H D I h
 refine wpAny_For (BZ (hi pins s Y H _ I h) fun v s1 h1=>BZ h1 fun itv s2 h2=>?_) hs
 obtain⟨it,C,Z,J,H2,e,I2,T,L,f2,W,⟨m0,w0⟩,turn⟩:=h2
 subst e
 have j:∀{t:Hp},(∀b∈C,t b=none)->∀b∈C,Gz X pins t b:=fun hn b c=>⟨hn b c,(f2 b c).2⟩
 refine codeAny_forLoop_any (fun n s'=>∃i k t,Inv X pins k t s'/\Z i s'.heap/\(∀b∈C,t b=none)/\W i n k t) ?_ m0 ⟨0,Y,H2,I2,L,fun b c=>(f2 b c).1,w0⟩
 rintro n s3 ⟨i,l,K,I3,E,F,w3⟩
 rcases turn i n l K w3 with⟨stop,qn⟩|⟨go,N,hN,step⟩
 ·refine wpAny_passesOwn B (BZ (T.done X rfl rfl rfl V i pins s3 l K X.xe I3 (j F) E stop) fun r s4 ⟨M,I4⟩=>?_)
  subst M
  exact wpAny_execs_nil ⟨l,K,I4,qn⟩
 ·refine wpAny_passesOwn B (BZ (T.item X rfl rfl rfl V i pins s3 l K X.xe I3 (j F) E go) fun r s4 ⟨u,M,h4⟩=>?_)
  subst M
  refine wpAny_passesOwn B (BZ h4 fun _ s5 ⟨x,H5,I5,r5,y5,z,O⟩=>?_)
  have P:=I5.pinned (j O) (T.obj _ _ z)
  refine wpAny_passesOwn B (BZ (hg _ s5 l H5 x u _ P r5 (step x H5 y5)) fun _ s6 ⟨Q,H6,I6,q6⟩=>?_)
  refine wpAny_passesOwn B (BZ (c _ s6 Q H6 _ I6 q6) fun f R y=>?_)
  have again:∀{a:St} {p:Hp},Inv X (pins++Iw C s5.heap) a p R->N a p->∃m,m<n/\∃i k t,Inv X pins k t R/\Z i R.heap/\(∀b∈C,t b=none)/\W i m k t:=fun{a p} q G=>by
   obtain⟨m',hm,w7⟩:=hN a p G
   refine⟨m',hm,i+1,a,p,q.Ep,T.keep _ _ _ z fun b c o e=>(q.pin (b,o) (List.mem_append_right _ (List.mem_append_right _ (EJ c e)))).1,fun b c=>?_,w7⟩
   obtain⟨o,e,d⟩:=T.obj _ _ z b c
   exact(q.pin (b,o) (List.mem_append_right _ (List.mem_append_right _ (EJ c e)))).2.1
  cases f with
  |next=>obtain⟨a,p,q,G⟩:=y;exact again q G
  |cont=>obtain⟨a,p,q,G⟩:=y;exact again q G
  |brk=>obtain⟨a,p,q,y⟩:=y;exact⟨a,p,q.Ep,y⟩
  |ret v=>obtain⟨x7,a,p,q,r7,y⟩:=y;exact⟨x7,a,p,q.Ep,r7,y⟩
end
theorem Ci {K:ADv} {a:Addr} {xs:List V} {g:TG} {h:TS} {D:Ends} {σ:St} {H:Hp} (Pv:Nat->St->Hp->Prop) (k:Pv 0 σ H) (hl:∀i σ H,i<=xs.length->Pv i σ H->Ap K H a xs)
  (l:∀i x σ H,xs[i]?=some x->Pv i σ H->g x σ H fun b H2=>h {D with nx:=Pv (i+1),ct:=Pv (i+1),bk:=D.nx} b H2) (n:∀σ H,Pv xs.length σ H->D.nx σ H):
  ∃W:Nat->Nat->St->Hp->Prop,(∃m,W 0 m σ H)/\∀i m σ H,W i m σ H->
   ((eZ K a).stop i H/\D.nx σ H)∨((eZ K a).go i H/\∃N:St->Hp->Prop,(∀c d,N c d->∃j,j<m/\W (i+1) j c d)/\∀x d,(eZ K a).Sf i H x d->g x σ d fun b H2=>h {D with nx:=N,ct:=N,bk:=D.nx} b H2):=by
 refine⟨fun i m σ H=>m=xs.length-i/\i<=xs.length/\Pv i σ H,⟨xs.length,by simp,Nat.zero_le _,k⟩,?_⟩
 rintro i m σ H ⟨rfl,o,p⟩
 have q:=hl i σ H o p
 by_cases f:i<xs.length
 ·refine .inr ⟨⟨xs,xs[i],q,by simp[f]⟩,Pv (i+1),fun c d r=>⟨xs.length-(i+1),by lia,rfl,f,r⟩,fun x d y=>?_⟩
  obtain⟨e,y⟩:=y
  subst e
  exact l i x σ _ (y xs q) p
 ·have e:i=xs.length:=by lia
  subst e
  exact .inl ⟨⟨xs,q,Nat.le_refl _⟩,n σ H p⟩
theorem ME {K:ADv} {a:Addr} {xs:List V} {g:TG} {h:TS} {D:Ends} {σ:St} {H:Hp} (Pv:Nat->St->Hp->Prop) (k:Pv 0 σ H) (hl:∀i σ H,i<=xs.length->Pv i σ H->BY K H a xs)
  (l:∀i x σ H,xs[i]?=some x->Pv i σ H->g x σ H fun b H2=>h {D with nx:=Pv (i+1),ct:=Pv (i+1),bk:=D.nx} b H2) (n:∀σ H,Pv xs.length σ H->D.nx σ H):
  ∃W:Nat->Nat->St->Hp->Prop,(∃m,W 0 m σ H)/\∀i m σ H,W i m σ H->
   ((en K a).stop i H/\D.nx σ H)∨((en K a).go i H/\∃N:St->Hp->Prop,(∀c d,N c d->∃j,j<m/\W (i+1) j c d)/\∀x d,(en K a).Sf i H x d->g x σ d fun b H2=>h {D with nx:=N,ct:=N,bk:=D.nx} b H2):=by
 refine⟨fun i m σ H=>m=xs.length-i/\i<=xs.length/\Pv i σ H,⟨xs.length,by simp,Nat.zero_le _,k⟩,?_⟩
 rintro i m σ H ⟨rfl,o,p⟩
 have q:=hl i σ H o p
 by_cases f:i<xs.length
 ·refine .inr ⟨⟨xs,xs[i],q,by simp[f]⟩,Pv (i+1),fun c d r=>⟨xs.length-(i+1),by lia,rfl,f,r⟩,fun x d y=>?_⟩
  obtain⟨e,y⟩:=y
  subst e
  exact l i x σ _ (y xs q) p
 ·have e:i=xs.length:=by lia
  subst e
  exact .inl ⟨⟨xs,q,Nat.le_refl _⟩,n σ H p⟩
theorem Dn {lo:Int} {n:Nat} {g:TG} {f:TS} {D:Ends} {σ:St} {H:Hp} (Pv:Nat->St->Hp->Prop) (j:Pv 0 σ H)
  (k:∀i σ H,i<n->Pv i σ H->g (.int (lo+i)) σ H fun a H2=>f {D with nx:=Pv (i+1),ct:=Pv (i+1),bk:=D.nx} a H2) (l:∀σ H,Pv n σ H->D.nx σ H):
  ∃W:Nat->Nat->St->Hp->Prop,(∃m,W 0 m σ H)/\∀i m σ H,W i m σ H->
   ((dZ lo n).stop i H/\D.nx σ H)∨((dZ lo n).go i H/\∃N:St->Hp->Prop,(∀b c,N b c->∃h,h<m/\W (i+1) h b c)/\∀x c,(dZ lo n).Sf i H x c->g x σ c fun a H2=>f {D with nx:=N,ct:=N,bk:=D.nx} a H2):=by
 refine⟨fun i m σ H=>m=n-i/\i<=n/\Pv i σ H,⟨n,by simp,Nat.zero_le _,j⟩,?_⟩
 rintro i m σ H ⟨rfl,q,p⟩
 by_cases d:i<n
 ·refine .inr ⟨d,Pv (i+1),fun b c o=>⟨n-(i+1),by lia,rfl,d,o⟩,fun x c y=>?_⟩
  obtain⟨e,y⟩:=y
  subst e y
  exact k i σ _ d p
 ·have e:i=n:=by lia
  subst e
  exact .inl ⟨Nat.le_refl _,l σ H p⟩
abbrev R2:=V->V->Hp->VK->Prop
def DC (X:Cx) (f:Value->Value->Sem Value) (r:R2):Prop:=
 ∀(pins:List (Addr×Obj)) (s:Shared) (a:St) (H:Hp) (x y:V) (v u:Value) (Q:VK),Inv X pins a H s->RelV x v->RelV y u->r x y H Q->
  wpAny (model X.prog X.w) X.A (f v u) (EP X pins a Q) X.xe s
def lC (X:Cx) (f:Value->Sem Value) (r:V->Hp->VK->Prop):Prop:=
 ∀(pins:List (Addr×Obj)) (s:Shared) (a:St) (H:Hp) (x:V) (v:Value) (Q:VK),Inv X pins a H s->RelV x v->r x H Q->
  wpAny (model X.prog X.w) X.A (f v) (EP X pins a Q) X.xe s
def BD (X:Cx) (f:Value) (r:List V->Hp->VK->Prop):Prop:=
 ∀(pins:List (Addr×Obj)) (s:Shared) (a:St) (H:Hp) (b:List V) (c:List Value) (Q:VK),Inv X pins a H s->Vals b c->r b H Q->
  wpAny (model X.prog X.w) X.A (call f c) (EP X pins a Q) X.xe s
def lD (X:Cx) (r:V->Hp->(Bool->Hp->Prop)->Prop):Prop:=
 ∀(pins:List (Addr×Obj)) (s:Shared) (a:St) (H:Hp) (x:V) (v:Value) (Q:Bool->Hp->Prop),Inv X pins a H s->RelV x v->r x H Q->
  wpAny (model X.prog X.w) X.A (truthy v) (TP X pins a Q) X.xe s
def Xf (r:R2) (b c:TE):TE:=fun a H Q=>b a H fun x d=>c a d fun y e=>r x y e Q
def yL (r:V->Hp->VK->Prop) (a:TE):TE:=fun b H Q=>a b H fun x c=>r x c Q
inductive vR (C:Int->Int->Prop) (g:Int->Int->V) (x:V) (y:V) (H:Hp) (Q:VK):Prop
 |mk (i:_) (j:_) (a:x=.int i) (b:y=.int j) (c:C i j) (d:Q (g i j) H):vR C g x y H Q
def rI (C:Int->Int->Prop) (g:Int->Int->V):R2:=fun x y H Q=>vR C g x y H Q
inductive er (g:Int->Int->V) (x:V) (y:V) (H:Hp) (Q:VK):Prop
 |mk (i:_) (j:_) (a:x=.int i) (b:y=.int j) (c:Q (g i j) H):er g x y H Q
def Zl (g:Int->Int->V):R2:=fun x y H Q=>er g x y H Q
inductive vS (g:Int->V) (x:V) (H:Hp) (Q:VK):Prop
 |mk (i:_) (a:x=.int i) (b:Q (g i) H):vS g x H Q
def rU (g:Int->V):V->Hp->VK->Prop:=fun x H Q=>vS g x H Q
section
variable{X:Cx} {a b c:Expr} {ta tb tc:TE} {pos:Pos}
theorem a_ (k:PE X a ta) (l:PE X b tb) {pins:List (Addr×Obj)} {s:Shared} {σ:St} {H:Hp} {R:V->V->Hp->Prop} (I:Inv X pins σ H s)
  (h:ta σ H fun x i=>tb σ i fun y H2=>R x y H2) {Q:Value->Shared->Prop} {f:Value->Value->Sem Value}
  (m:∀v u g x y H2,Inv X pins σ H2 g->RelV x v->RelV y u->R x y H2->wpAny (model X.prog X.w) X.A (f v u) Q X.xe g):
  wpAny (model X.prog X.w) X.A (eval a X.env) (fun v d=>wpAny (model X.prog X.w) X.A (eval b X.env) (fun u e=>wpAny (model X.prog X.w) X.A (f v u) Q X.xe e) X.xe d) X.xe s:=by
 refine BZ (k pins s σ H _ I h) fun v n j=>j.elim fun x i o p q=>?_
 refine BZ (l pins n σ i _ o q) fun u g j=>j.elim fun y H2 r t z=>?_
 exact m v u g x y H2 r p t z
theorem AS {op:Operator} {r:R2} (d:DC X (binaryOp op) r) (e:PE X a ta) (f:PE X b tb):PE X (.BinOp a op b pos) (Xf r ta tb):=by
 intro pins s g H Q I h
 exact wpAny_BinOp (a_ e f I h fun v u i x y j k l m q=>d pins i g j x y v u Q k l m q)
theorem UU {op:UnaryOp} {r:V->Hp->VK->Prop} (e:lC X (unaryOp op) r) (f:PE X a ta):PE X (.UnaryOp op a pos) (yL r ta):=by
 intro pins s d H Q I h
 exact UnaryOp_ (BZ (f pins s d H _ I h) fun v g i=>i.elim fun x j k l m=>e pins g d j x v Q k l m)
theorem jV {f:Value->Value->Sem Value} {C:Int->Int->Prop} {g:Int->Int->Int}
  (rule:∀(i j:Int) (t u:Tok) (s:Shared) (Q:Value->Shared->Prop) (E:Value->Shared->Prop),C i j->Q (.int (g i j) s.toks) {s with toks:=s.toks+1}->wpAny (model X.prog X.w) X.A (f (.int i t) (.int j u)) Q E s):
  DC X f (rI C fun i j=>.int (g i j)):=by
 intro pins s m H x y v u Q I d e h
 obtain⟨i,j,rfl,rfl,k,q⟩:=h
 obtain⟨t,rfl⟩:=d
 obtain⟨l,rfl⟩:=e
 exact rule i j t l s _ _ k ⟨.int (g i j),H,I.tok _,⟨_,rfl⟩,q⟩
theorem ew {f:Value->Value->Sem Value} {g:Int->Int->Int}
  (rule:∀(i j:Int) (t u:Tok) (s:Shared) (Q:Value->Shared->Prop) (E:Value->Shared->Prop),Q (.int (g i j) s.toks) {s with toks:=s.toks+1}->wpAny (model X.prog X.w) X.A (f (.int i t) (.int j u)) Q E s):
  DC X f (Zl fun i j=>.int (g i j)):=by
 intro pins s l H x y v u Q I d e h
 obtain⟨i,j,rfl,rfl,q⟩:=h
 obtain⟨t,rfl⟩:=d
 obtain⟨k,rfl⟩:=e
 exact rule i j t k s _ _ ⟨.int (g i j),H,I.tok _,⟨_,rfl⟩,q⟩
theorem Xg {f:Value->Value->Sem Value} {g:Int->Int->Bool}
  (rule:∀(i j:Int) (t u:Tok) (s:Shared) (Q:Value->Shared->Prop) (E:Value->Shared->Prop),Q (.bool (g i j)) s->wpAny (model X.prog X.w) X.A (f (.int i t) (.int j u)) Q E s):
  DC X f (Zl fun i j=>.bl (g i j)):=by
 intro pins s l H x y v u Q I d e h
 obtain⟨i,j,rfl,rfl,q⟩:=h
 obtain⟨t,rfl⟩:=d
 obtain⟨k,rfl⟩:=e
 exact rule i j t k s _ _ ⟨.bl (g i j),H,I,rfl,q⟩
def e_ (i j:Int):Prop:=0<j/\j<1073741824
def lE (i j:Int):Prop:=0<=j/\j<=1000000/\i.natAbs<2 ^ 64
def a' (i j:Int):Prop:=(-(2 ^ 64)<i/\i<2 ^ 64)∨(-(2 ^ 64)<j/\j<2 ^ 64)
theorem a'.ok {i j:Int} (h:a' i j):IntMulOk i j:=by
 rcases h with⟨d,e⟩|⟨d,e⟩
 ·exact .of_left (intBits_le_64 d e)
 ·exact .of_right (intBits_le_64 d e)
theorem Bq:DC X (binaryOp .Add) (Zl fun i j=>.int (i+j)):=ew fun _ _ _ _ _ _ _ q=>add_int q
theorem G_:DC X (binaryOp .Sub) (Zl fun i j=>.int (i-j)):=ew fun _ _ _ _ _ _ _ q=>sub_int q
theorem Er:DC X (binaryOp .Mult) (rI a' fun i j=>.int (i*j)):=jV fun _ _ _ _ _ _ _ d q=>mul_int q d.ok
theorem B_:DC X (binaryOp .FloorDiv) (rI e_ fun i j=>.int (i/j)):=jV fun i j _ _ _ _ _ d q=>by
 have e:(0:Int)<j:=d.1
 have f:j<1073741824:=d.2
 exact floordiv_int (by lia) (by rw[Int.fdiv_eq_ediv_of_nonneg i (by lia)];exact q) (.inl (PyProof.noPylong_small (by lia)))
theorem BI:DC X (binaryOp .Mod) (rI (fun _ j=>0<j) fun i j=>.int (i % j)):=jV fun i j _ _ _ _ _ d q=>by
 have e:(0:Int)<j:=d
 exact mod_int' (by lia) (by rw[Int.fmod_eq_emod_of_nonneg i (by lia)];exact q)
theorem Px:DC X (binaryOp .Pow) (rI lE fun i j=>.int (i ^ j.toNat)):=jV fun _ _ _ _ _ _ _ d q=>pow_int_small d.1 d.2.1 d.2.2 q
theorem yM {f:Value->Sem Value} {g:Int->Int}
  (rule:∀(i:Int) (t:Tok) (s:Shared) (Q:Value->Shared->Prop) (E:Value->Shared->Prop),Q (.int (g i) s.toks) {s with toks:=s.toks+1}->wpAny (model X.prog X.w) X.A (f (.int i t)) Q E s):
  lC X f (rU fun i=>.int (g i)):=by
 intro pins s e H x v Q I d h
 obtain⟨i,rfl,q⟩:=h
 obtain⟨t,rfl⟩:=d
 exact rule i t s _ _ ⟨.int (g i),H,I.tok _,⟨_,rfl⟩,q⟩
theorem Py:lC X (unaryOp .USub) (rU fun i=>.int (-i)):=yM fun _ _ _ _ _ q=>neg_int q
inductive MF (x:V) (y:V) (H:Hp) (Q:VK):Prop
 |mk (i:_) (k:_) (d:x=.int i) (e:y=.bl k) (f:Q (.int (i+b2i k)) H):MF x y H Q
end
def fF:V->V->Bool
 | .BO,.BO=>true| .BO,.int _=>true| .int _,.BO=>true| .BO,.bl _=>true| .bl _,.BO=>true| .BO,.str _=>true| .str _,.BO=>true
 | .int _,.int _=>true| .bl _,.bl _=>true| .str _,.str _=>true| .NO _,.NO _=>true
 | .int _,.str _=>true| .str _,.int _=>true| .bl _,.str _=>true| .str _,.bl _=>true
 |_,_=>false
def yN:R2:=fun x y H Q=>fF x y=true/\Q (.bl (decide (x=y))) H
def yO:R2:=fun x y H Q=>fF x y=true/\Q (.bl (!decide (x=y))) H
theorem RI {i j:Int}:decide (V.int i=V.int j)=(i==j):=by
 rw[Bool.eq_iff_iff]
 simp
theorem UW {i j:Bool}:decide (V.bl i=V.bl j)=(i==j):=by
 rw[Bool.eq_iff_iff]
 simp
theorem RJ {i j:Str}:decide (V.str i=V.str j)=(i==j):=by
 rw[Bool.eq_iff_iff]
 simp
theorem RK {i j:Array UInt8}:decide (V.NO i=V.NO j)=(i.toList==j.toList):=by
 rw[Bool.eq_iff_iff]
 cases i
 cases j
 simp
section
variable{X:Cx} {a b c:Expr} {ta tb tc:TE} {pos:Pos}
theorem BE {pins:List (Addr×Obj)} {σ:St} {H:Hp} {s:Shared} {Q:VK} {k d:Bool} (I:Inv X pins σ H s) (q:Q (.bl k) H) (e:k=d):EP X pins σ Q (.bool d) s:=by
 subst e
 exact⟨.bl k,H,I,rfl,q⟩
theorem Bl:DC X (compareOp .Eq) yN:=by
 intro pins s k H x y v u Q I g d h
 obtain⟨f,q⟩:=h
 cases x with
 |BO=>
  cases g
  cases y with
  |BO=>cases d;exact PySem.EqNone.eq_none_none (BE I q (by simp))
  |bl j=>cases d;exact PySem.EqNone.eq_none_bool (BE I q (by simp))
  |int j=>obtain⟨e,rfl⟩:=d;exact PySem.EqNone.eq_none_int (BE I q (by simp))
  |str j=>obtain⟨e,rfl⟩:=d;exact PySem.EqNone.eq_none_str (BE I q (by simp))
  |_=>exact absurd (show false=true from f) Bool.false_ne_true
 |bl i=>
  cases g
  cases y with
  |BO=>cases d;exact PySem.EqNone.eq_bool_none (BE I q (by simp))
  |bl j=>cases d;exact eq_bool (BE I q UW)
  |str j=>obtain⟨e,rfl⟩:=d;exact PySem.EqMixed.eq_bool_str (BE I q (by simp))
  |_=>exact absurd (show false=true from f) Bool.false_ne_true
 |int i=>
  obtain⟨t,rfl⟩:=g
  cases y with
  |BO=>cases d;exact PySem.EqNone.eq_int_none (BE I q (by simp))
  |int j=>obtain⟨e,rfl⟩:=d;exact eq_int (BE I q RI)
  |str j=>obtain⟨e,rfl⟩:=d;exact PySem.EqMixed.eq_int_str (BE I q (by simp))
  |_=>exact absurd (show false=true from f) Bool.false_ne_true
 |str i=>
  obtain⟨t,rfl⟩:=g
  cases y with
  |BO=>cases d;exact PySem.EqNone.eq_str_none (BE I q (by simp))
  |bl j=>cases d;exact PySem.EqMixed.eq_str_bool (BE I q (by simp))
  |int j=>obtain⟨e,rfl⟩:=d;exact PySem.EqMixed.eq_str_int (BE I q (by simp))
  |str j=>obtain⟨e,rfl⟩:=d;exact eq_str (BE I q RJ)
  |_=>exact absurd (show false=true from f) Bool.false_ne_true
 |NO i=>
  obtain⟨t,rfl⟩:=g
  cases y with
  |NO j=>obtain⟨e,rfl⟩:=d;exact PySem.W.eq_bytes (BE I q RK)
  |_=>exact absurd (show false=true from f) Bool.false_ne_true
 |_=>cases y<;>exact absurd (show false=true from f) Bool.false_ne_true
theorem RL:DC X (compareOp .NotEq) yO:=by
 intro pins s k H x y v u Q I g d h
 obtain⟨f,q⟩:=h
 cases x with
 |BO=>
  cases g
  cases y with
  |BO=>cases d;exact PySem.EqNone.ne_none_none (BE I q (by simp))
  |bl j=>cases d;exact PySem.EqNone.ne_none_bool (BE I q (by simp))
  |int j=>obtain⟨e,rfl⟩:=d;exact PySem.EqNone.ne_none_int (BE I q (by simp))
  |str j=>obtain⟨e,rfl⟩:=d;exact PySem.EqNone.ne_none_str (BE I q (by simp))
  |_=>exact absurd (show false=true from f) Bool.false_ne_true
 |bl i=>
  cases g
  cases y with
  |BO=>cases d;exact PySem.EqNone.ne_bool_none (BE I q (by simp))
  |bl j=>cases d;exact ne_bool (BE I q (congrArg not UW))
  |str j=>obtain⟨e,rfl⟩:=d;exact PySem.EqMixed.ne_bool_str (BE I q (by simp))
  |_=>exact absurd (show false=true from f) Bool.false_ne_true
 |int i=>
  obtain⟨t,rfl⟩:=g
  cases y with
  |BO=>cases d;exact PySem.EqNone.ne_int_none (BE I q (by simp))
  |int j=>obtain⟨e,rfl⟩:=d;exact ne_int (BE I q (congrArg not RI))
  |str j=>obtain⟨e,rfl⟩:=d;exact PySem.EqMixed.ne_int_str (BE I q (by simp))
  |_=>exact absurd (show false=true from f) Bool.false_ne_true
 |str i=>
  obtain⟨t,rfl⟩:=g
  cases y with
  |BO=>cases d;exact PySem.EqNone.ne_str_none (BE I q (by simp))
  |bl j=>cases d;exact PySem.EqMixed.ne_str_bool (BE I q (by simp))
  |int j=>obtain⟨e,rfl⟩:=d;exact PySem.EqMixed.ne_str_int (BE I q (by simp))
  |str j=>obtain⟨e,rfl⟩:=d;exact ne_str (BE I q (congrArg not RJ))
  |_=>exact absurd (show false=true from f) Bool.false_ne_true
 |NO i=>
  obtain⟨t,rfl⟩:=g
  cases y with
  |NO j=>obtain⟨e,rfl⟩:=d;exact PySem.W.ne_bytes (BE I q (congrArg not RK))
  |_=>exact absurd (show false=true from f) Bool.false_ne_true
 |_=>cases y<;>exact absurd (show false=true from f) Bool.false_ne_true
theorem Iy:DC X (compareOp .Lt) (Zl fun i j=>.bl (decide (i<j))):=Xg fun _ _ _ _ _ _ _ q=>lt_int q
inductive UX (x:V) (y:V) (H:Hp) (Q:VK):Prop
 |mk (i:_) (j:_) (d:x=.str i) (e:y=.str j) (f:Q (.bl (decide (i.cps.toList<j.cps.toList))) H):UX x y H Q
theorem fG:DC X (compareOp .LtE) (Zl fun i j=>.bl (decide (i<=j))):=Xg fun _ _ _ _ _ _ _ q=>le_int q
theorem UY:DC X (compareOp .Gt) (Zl fun i j=>.bl (decide (j<i))):=Xg fun _ _ _ _ _ _ _ q=>gt_int q
theorem fH:DC X (compareOp .GtE) (Zl fun i j=>.bl (decide (j<=i))):=Xg fun _ _ _ _ _ _ _ q=>ge_int q
inductive MG (x:V) (y:V) (H:Hp) (Q:VK):Prop
 |mk (i:_) (j:_) (d:x=.str i) (e:y=.str j) (f:Q (.bl (!(Builtin.Str.occurrences j i 0 j.length 1).isEmpty)) H):MG x y H Q
theorem Pz:DC X (compareOp .Is) (fun x y H Q=>y=.BO/\Q (.bl (decide (x=.BO))) H):=by
 intro pins s f H x y v u Q I d e h
 obtain⟨rfl,q⟩:=h
 cases e
 refine is_none_gen (BE I q ?_)
 cases x<;>first
  |(cases d;rfl)
  |(obtain⟨t,rfl⟩:=d;rfl)
theorem RM:DC X (compareOp .IsNot) (fun x y H Q=>y=.BO/\Q (.bl (!decide (x=.BO))) H):=by
 intro pins s f H x y v u Q I d e h
 obtain⟨rfl,q⟩:=h
 cases e
 refine isnot_none_gen (BE I q ?_)
 cases x<;>first
  |(cases d;rfl)
  |(obtain⟨t,rfl⟩:=d;rfl)
inductive IL (x:V) (y:V) (H:Hp) (Q:VK):Prop
 |mk (i:_) (j:_) (d:x=.str i) (e:y=.str j) (f:Q (.bl (!(!(Builtin.Str.occurrences j i 0 j.length 1).isEmpty))) H):IL x y H Q
def isObj:HO->Bool
 | .lst _=>true
 | .ins _ _ _=>true
 |_=>false
inductive MH (x:V) (y:V) (H:Hp) (Q:VK):Prop
 |mk (a:_) (b:_) (d:_) (e:_) (f:x=.ref a) (g:y=.ref b) (h:H a=some d) (i:isObj d=true) (j:H b=some e) (k:isObj e=true) (l:Q (.bl (decide (a=b))) H):MH x y H Q
inductive IM (x:V) (y:V) (H:Hp) (Q:VK):Prop
 |mk (a:_) (b:_) (d:_) (e:_) (f:x=.ref a) (g:y=.ref b) (h:H a=some d) (i:isObj d=true) (j:H b=some e) (k:isObj e=true) (l:Q (.bl (!decide (a=b))) H):IM x y H Q
theorem AZ (b:Expr) {op:CmpOp} (h:op≠.In:=by decide) (d:op≠.NotIn:=by decide):behindInMarks op b=false:=by
 have e:(op==CmpOp.In)=false:=by cases op<;>first|rfl|exact absurd rfl h
 have f:(op==CmpOp.NotIn)=false:=by cases op<;>first|rfl|exact absurd rfl d
 cases b<;>simp[behindInMarks,e,f]
theorem DU {op:CmpOp} {r:R2} (d:DC X (compareOp op) r) (e:PE X a ta) (f:PE X b tb) (g:behindInMarks op b=false):PE X (.Compare a [op] [b] pos) (Xf r ta tb):=by
 intro pins s i H Q I h
 exact wpAny_Compare1 (a_ e f I h fun v u j x y k l m n q=>d pins j i k x y v u Q l m n q) g
def fI (t:TE):TT:=fun d H Q=>t d H fun x e=>kZ x e Q
theorem AR {op:CmpOp} {r:R2} (f:DC X (compareOp op) r) (g:PE X a ta) (i:PE X b tb) (j:behindInMarks op b=false):PT X (.Compare a [op] [b] pos) (fI (Xf r ta tb)):=by
 intro pins s d H Q I h
 refine wpAny_isTrue_Compare1 (BZ (g pins s d H _ I h) fun v l m=>m.elim fun x n o p q=>BZ (i pins l d n _ o q) fun u t ⟨y,w,A,B,C⟩=>
  BZ (f pins t d w x y v u _ A p B C) fun c J ⟨z,D,E,F,k,e,G⟩=>?_) j
 subst e
 cases F
 exact wpAny_truthy_bool ⟨D,E,G⟩
def bA (r f:R2) (ta tb tc:TE):TE:=fun d H Q=>ta d H fun x g=>tb d g fun y h=>r x y h fun z e=>∃k,z=.bl k/\
 (if k=true then tc d e fun i j=>f y i j Q else Q (.bl false) e)
theorem UZ {op f:CmpOp} {r l:R2} (q:DC X (compareOp op) r) (i:DC X (compareOp f) l) (t:PE X a ta) (w:PE X b tb) (A:PE X c tc)
  (B:lastMarks [op,f] [b,c]=false:=by with_unfolding_all rfl):PE X (.Compare a [op,f] [b,c] pos) (bA r l ta tb tc):=by
 intro pins s g H Q I h
 refine Compare_chain (BZ (t pins s g H _ I h) fun v C j=>j.elim fun x D E F G=>chain_link (BZ (w pins C g D _ E G) fun u J ⟨y,K,L,m,M⟩=>
  BZ (q pins J g K x y v u _ L F m M) fun d N ⟨z,n,o,O,k,e,p⟩=>?_)) B
 subst e
 cases O
 refine wpAny_truthy_bool ?_
 cases k with
 |false=>exact ite_ff ⟨.bl false,n,o,rfl,p⟩
 |true=>exact ite_tt (chain_last (BZ (A pins N g n _ o p) fun P R j=>j.elim fun S T U V W=>i pins R g T y S u P Q U m V W))
def fK (K:ADv) (x:V) (H:Hp) (k:Bool):Prop:=
 match x with
 | .BO=>k=false
 | .bl b=>k=b
 | .int i=>k=(i !=0)
 | .str y=>y.length<=sizeLine/\k=((y.length:Int) !=0)
 | .NO y=>y.size<=sizeLine/\k=((y.size:Int) !=0)
 | .ref p=>(∃d,Ap K H p d/\k= !d.isEmpty)∨(∃d,BY K H p d/\k= !d.isEmpty)∨∃kvs,H p=some (.dK kvs)/\k= !kvs.isEmpty
 |_=>False
theorem P_ {d:Type} {kvs:List (d×V)} {vs:List (d×Value)} (r:KV kvs vs):(!vs.isEmpty)= !kvs.isEmpty:=by
 cases r<;>rfl
theorem Iz {xs:List V} {its:List Value} (r:Vals xs its):(!its.toArray.isEmpty)= !xs.isEmpty:=by
 cases r<;>simp
theorem G':(sizeLine:Nat)<2 ^ 63:=by rw[sizeLine_eq];decide
theorem bB:lD X (fun x H Q=>∃k,fK X.K x H k/\Q k H):=by
 intro pins s A H x v Q I g h
 obtain⟨k,e,q⟩:=h
 have B:=G'
 have C:sizeLine=16777216:=sizeLine_eq
 cases x with
 |BO=>
  cases g
  have d:k=false:=e
  subst d
  exact truthy_none ⟨H,I,q⟩
 |bl b=>
  cases g
  have d:k=b:=e
  subst d
  exact wpAny_truthy_bool ⟨H,I,q⟩
 |int i=>
  obtain⟨t,rfl⟩:=g
  have d:k=(i !=0):=e
  subst d
  exact PySem.P.truthy_int ⟨H,I,q⟩
 |str y=>
  obtain⟨t,rfl⟩:=g
  obtain⟨u,d⟩:y.length<=sizeLine/\k=((y.length:Int) !=0):=e
  subst d
  exact PySem.P.truthy_str (by lia) ⟨H,I.tok _,q⟩
 |NO y=>
  obtain⟨t,rfl⟩:=g
  obtain⟨u,d⟩:y.size<=sizeLine/\k=((y.size:Int) !=0):=e
  subst d
  exact PySem.W.truthy_bytes (by lia) ⟨H,I.tok _,q⟩
 |ref p=>
  cases g
  have d:(∃f,Ap X.K H p f/\k= !f.isEmpty)∨(∃f,BY X.K H p f/\k= !f.isEmpty)∨∃kvs,H p=some (.dK kvs)/\k= !kvs.isEmpty:=e
  rcases d with⟨f,j,d⟩|⟨f,j,d⟩|⟨kvs,j,d⟩
  ·subst d
   obtain⟨n,r,pl,o⟩:=I.list j
   have hlen:=r.length
   exact wpAny_truthy_list pl.isList (by simp only[List.size_toArray];lia) ⟨H,I.tok _,by rw[Iz r];exact q⟩
  ·subst d
   obtain⟨n,r,pl,o⟩:=I.tuple j
   have hlen:=r.length
   exact truthy_tuple pl (by simp only[List.size_toArray];lia) ⟨H,I.tok _,by rw[Iz r];exact q⟩
  ·subst d
   obtain⟨o,z,l,r,m⟩:kvs.length<=sizeLine/\(p==sysModules)=false/\∃l,KV kvs l/\s.heap.DictOf (An X.prog X.w) p l:=I.BS p _ j
   have hlen:kvs.length=l.length:=Paired.length r
   exact wpAny_truthy_dict z m (by lia) ⟨H,I.tok _,by rw[P_ r];exact q⟩
 |_=>exact(show False from e).elim
theorem Ua (e:PE X a ta) (f:∀whole,isTrue a X.env whole=(do let v<-whole;standAt a.pos;holding [v] (truthy v))):
  PT X a (fun σ H Q=>ta σ H fun x d=>∃k,fK X.K x d k/\Q k d):=by
 intro pins s σ H Q I h
 exact isTrue_plain (BZ (e pins s σ H _ I h) fun v g i=>i.elim fun x j l m n=>bB pins g σ j x v Q l m n) (f _)
inductive Fl (x:V) (y:V) (H:Hp) (Q:VK):Prop
 |mk (i:_) (j:_) (d:x=.str i) (e:y=.str j) (f:i.length+j.length<=sizeLine) (g:Q (.str (i++j)) H):Fl x y H Q
def MI:V->V->Hp->VK->Prop:=fun x y H Q=>Fl x y H Q
theorem EK:DC X (binaryOp .Add) MI:=by
 intro pins s k H x y v u Q I d e h
 obtain⟨i,j,rfl,rfl,f,q⟩:=h
 obtain⟨t,rfl⟩:=d
 obtain⟨g,rfl⟩:=e
 exact add_str (fun g l=>⟨.str (i++j),H,I.tok _,⟨_,rfl⟩,q⟩) f
inductive I_ (x:V) (y:V) (H:Hp) (Q:VK):Prop
 |mk (i:_) (j:_) (d:x=.str i) (e:y=.str j) (f:i.length+j.length<=sizeLine) (g:Q (.str (i++j)) H):I_ x y H Q
inductive Kh (x:V) (y:V) (H:Hp) (Q:VK):Prop
 |mk (i:_) (j:_) (d:x=.NO i) (e:y=.NO j) (f:i.size+j.size<=16777216) (g:Q (.NO (i++j)) H):Kh x y H Q
theorem vals1 {x:V} {us:List Value} (r:Vals [x] us):∃u,us=[u]/\RelV x u:=by
 cases r with
 |cons d e=>cases e;exact⟨_,rfl,d⟩
theorem vals2 {x y:V} {us:List Value} (r:Vals [x,y] us):∃u d,us=[u,d]/\RelV x u/\RelV y d:=by
 cases r with
 |cons e f=>
  cases f with
  |cons g h=>cases h;exact⟨_,_,rfl,e,g⟩
inductive NU (xs:List V) (H:Hp) (Q:VK):Prop
 |mk (i:_) (d:xs=[.int i]) (e:Q (.int (if i<0 then-i else i)) H):NU xs H Q
inductive MJ (xs:List V) (H:Hp) (Q:VK):Prop
 |mk (i:_) (j:_) (d:xs=[.int i,.int j]) (e:Q (.int (if j>i then j else i)) H):MJ xs H Q
inductive MK (xs:List V) (H:Hp) (Q:VK):Prop
 |mk (i:_) (j:_) (d:xs=[.int i,.int j]) (e:Q (.int (if j<i then j else i)) H):MK xs H Q
theorem Kx:BD X (.type "int") (fun xs H Q=>(∃i,xs=[.int i]/\Q (.int i) H)∨∃k,xs=[.bl k]/\Q (.int (if k then 1 else 0)) H):=by
 intro pins s e H xs f Q I r h
 rcases h with⟨i,rfl,q⟩|⟨k,rfl,q⟩
 ·obtain⟨u,rfl,t,rfl⟩:=vals1 r
  exact call_int_int ⟨.int i,H,I,⟨_,rfl⟩,q⟩
 ·obtain⟨u,rfl,d⟩:=vals1 r
  cases d
  exact call_int_bool ⟨.int (if k then 1 else 0),H,I.tok _,⟨_,rfl⟩,q⟩
inductive IP (xs:List V) (H:Hp) (Q:VK):Prop
 |mk (i:_) (d:xs=[.int i]) (e:i.natAbs.log2<1920) (f:Q (.str (toString i)) H):IP xs H Q
inductive NV (xs:List V) (H:Hp) (Q:VK):Prop
 |mk (x:_) (d:xs=[.str x]) (e:x.length=1) (f:Q (.int (x.cps.getD 0 0:Nat)) H):NV xs H Q
inductive NW (xs:List V) (H:Hp) (Q:VK):Prop
 |mk (i:_) (d:xs=[.int i]) (e:0<=i) (f:i<=1114111) (g:Q (.str ⟨#[i.toNat]⟩) H):NW xs H Q
def lF (K:ADv) (x:V) (H:Hp) (n:Nat):Prop:=
 match x with
 | .str y=>y.length<=sizeLine/\n=y.length
 | .NO y=>y.size<=sizeLine/\n=y.size
 | .ref p=>(∃d,Ap K H p d/\n=d.length)∨∃d,BY K H p d/\n=d.length
 |_=>False
inductive NX (K:ADv) (xs:List V) (H:Hp) (Q:VK):Prop
 |mk (x:_) (n:_) (d:xs=[x]) (e:lF K x H n) (f:Q (.int n) H):NX K xs H Q
inductive JA (xs:List V) (H:Hp) (Q:VK):Prop
 |mk (i:_) (j:_) (d:xs=[.int i,.int j]) (e:e_ i j) (f:∀p,H p=none->Q (.ref p) (upd H p (.tup [.int (i/j),.int (i % j)]))):JA xs H Q
end
structure bC (h:Heap) (x dx C:Addr) (mA:Str->Option Value):Prop where
 obj:h.get? x=some (PySem.W.instObj C dx)
 ns:h.Ns1 dx mA
 ne:dx≠x
theorem Sj {h:Heap} {c:Addr} {d:Str->Option Value} (n:h.Ns1 c d):∃f,h.get? c=some f/\∀name,PySem.W.lookIn name f=some (d name):=by
 obtain⟨o,g,r,i,j,k,_,l⟩:=n
 refine⟨o,i,fun name=>?_⟩
 have e:=l name
 unfold nsFind findBy at e
 rw[<-Array.find?_toList]at e
 unfold PySem.W.lookIn
 rw[j]
 dsimp only
 split
 ·rename_i y q
  rw[q]at e
  exact congrArg some e
 ·rename_i q
  rw[q]at e
  have a:g.toList.any (·.refKey)=false:=by
   rw[List.any_eq_false]
   intro y m
   obtain⟨z,t,b⟩:=k y (Array.mem_toList_iff.mp m)
   simp[DictEntry.refKey,b]
  have p:¬g.toList.any (·.refKey)=true:=by rw[a];exact Bool.false_ne_true
  rw[if_neg p]
  exact congrArg some e
theorem bC.look {h:Heap} {x b C:Addr} {c:Str->Option Value} (I:bC h x b C c):∃a,PySem.W.InstAt h x (PySem.W.instObj C b) C (some a)/\∀name,PySem.W.lookIn name a=some (c name):=
 let⟨a,d,e⟩:=Sj I.ns
 ⟨a,⟨I.obj,rfl,rfl,d⟩,e⟩
section
variable{prog:Program} {w:World} {A:Around} {E:Value->Shared->Prop} {s:Shared} {K:ADv} {x dx C f:Addr} {mA:Str->Option Value} {name:Str} {v:Value}
end
theorem IK.some_of {v:V} {o:Option Value} (r:IK (some v) o):∃u,o=some u/\RelV v u:=by
 cases o with
 |none=>exact(show False from r).elim
 |some u=>exact⟨u,rfl,r⟩
section
variable{P:Program} {w:World} {H H':Hp} {h h':Heap} {a C dx:Addr} {fs yE:List (Str×V)}
theorem Xh (c:Fj P w H h) (e:H a=some (.ins C dx fs)):∃b,bC h a dx C b/\(∀f,IK (fs.lookup f) (b f))/\PySem.Within b (fs.map (·.1))/\fs.length<=1000/\H dx=some (.own a):=by
 obtain⟨d,z,ne,g,b,n,r,q⟩:=(show Au P w H h a (.ins C dx fs)from c a _ e)
 exact⟨b,⟨g,n,ne⟩,r,q,z,d⟩
end
structure lG (K:ADv) (C:Addr):Prop where
 pg:PySem.W.plainGet K C Str.empty=true
 hd:PySem.W.hasDictIn K C=true
 po:PySem.W.plainOver K C=true
 sa:PySem.W.findIn K (.ref C) "__setattr__"=some (some (.builtin "object.__setattr__"))
theorem lG.get {K:ADv} {C:Addr} (c:lG K C) (f:Str):PySem.W.plainGet K C f=true:=c.pg
structure Con (K:ADv) (C:Addr) (f:Str) (v:V) (u:Value):Prop where
 at_:PySem.W.findIn K (.ref C) f=some (some u)
 rel:RelV v u
 get:PySem.W.specialIn K u "__get__"=some none
 cp:PySem.W.copiedNames.contains f=false
structure Meth (K:ADv) (C:Addr) (m:Str) (f:Addr):Prop where
 at_:PySem.W.findIn K (.ref C) m=some (some (.ref f))
 fn:PySem.W.isFn K (.ref f)=true
 kp:PySem.W.keepIn K (.ref f)=true
section
variable{X:Cx} {pins:List (Addr×Obj)} {σ:St} {H:Hp} {s:Shared} {a C dx:Addr} {fs:List (Str×V)} {f:Str} {v:V} {A:Around} {E:Value->Shared->Prop}
end
section
variable{X:Cx} {o e value:Expr} {f:Str} {pos pos' lH:Pos} {ta tv:TE}
inductive fO (x:V) (y:V) (H:Hp) (Q:VK):Prop
 |mk (i:_) (j:_) (a:x=.int i) (b:y=.int j) (c:Q (.int (i+j)) H):fO x y H Q
inductive fP (x:V) (y:V) (H:Hp) (Q:VK):Prop
 |mk (i:_) (j:_) (a:x=.int i) (b:y=.int j) (c:Q (.int (i-j)) H):fP x y H Q
end
section
variable{X:Cx} {pins:List (Addr×Obj)} {σ:St} {H:Hp} {s:Shared} {A:Around} {E:Value->Shared->Prop} {Q:Value->Shared->Prop} {c:Value} {b:Bool}
inductive HK (K:ADv) (H:Hp):V->Value->Prop where
 |BO:HK K H .BO (.type "NoneType")
 |bl (x:Bool):HK K H (.bl x) (.type "bool")
 |int (i:Int):HK K H (.int i) (.type "int")
 |str (x:Str):HK K H (.str x) (.type "str")
 |dX (x:UInt64):HK K H (.dX x) (.type "float")
 |lst {a:Addr} {xs:List V} (e:H a=some (.lst xs)):HK K H (.ref a) (.type "list")
 |CK {a:Addr} {o:Obj} {xs:List V} (e:H a=some (.CK o (.lst xs))):HK K H (.ref a) (.type "list")
 |tup {a:Addr} {xs:List V} (e:H a=some (.tup xs)):HK K H (.ref a) (.type "tuple")
 |dK {a:Addr} {kvs:List (Key×V)} (e:H a=some (.dK kvs)):HK K H (.ref a) (.type "dict")
 |dT {a:Addr} {kvs:List (List Key×V)} (e:H a=some (.dT kvs)):HK K H (.ref a) (.type "dict")
 |ins {a C d:Addr} {fs:List (Str×V)} (e:H a=some (.ins C d fs)) (g:lG K C) (h:PySem.W.findIn K (.ref C) "__class__"=some (some (.builtin "object.__class__")))
   (j:PySem.W.specialIn K (.builtin "object.__class__") "__get__"=some (some (.builtin "getset_descriptor.__get__"))) (f:PySem.W.takesIn K (.builtin "object.__class__")=some true)
   (k:PySem.W.mroIn K C (.type "object")=some true):HK K H (.ref a) (.ref C)
theorem Dp {x:V} {u t:Value} (I:Inv X pins σ H s) (d:RelV x u) (ty:HK X.K H x t) (e:PySem.W.kitOne X.K t c=some b) (h:∀tk,Q (.bool b) {s with toks:=tk}):
  wpAny (model X.prog X.w) A (call (.builtin "isinstance") [u,c]) Q E s:=by
 cases ty with
 |BO=>cases(show u=Value.none from d);exact PySem.W.kia_one PySem.W.kitx_none I.GB True.intro e (fun z=>nomatch z) h
 |bl y=>cases(show u=Value.bool y from d);exact PySem.W.kia_one PySem.W.kitx_bool I.GB True.intro e (fun z=>nomatch z) h
 |int i=>obtain⟨t,q⟩:=(show∃t,u=Value.int i t from d);cases q;exact PySem.W.kia_one PySem.W.kitx_int I.GB True.intro e (fun z=>nomatch z) h
 |str y=>obtain⟨t,q⟩:=(show∃t,u=Value.str y t from d);cases q;exact PySem.W.kia_one PySem.W.kitx_str I.GB True.intro e (fun z=>nomatch z) h
 |dX y=>obtain⟨t,q⟩:=(show∃t,u=Value.float y t from d);cases q;exact PySem.W.kia_one PySem.W.kitx_float I.GB True.intro e (fun z=>nomatch z) h
 |@lst a j f=>
  cases(show u=Value.ref a from d)
  obtain⟨_,_,n,_,g⟩:=(show Au X.prog X.w H s.heap a (.lst j)from I.BS a _ f)
  exact PySem.W.kia_one PySem.W.kitx_list I.GB ⟨_,g,rfl⟩ e (fun z=>nomatch z) h
 |@CK a r j f=>
  cases(show u=Value.ref a from d)
  obtain⟨_,_,_,n,_,g⟩:=(show Au X.prog X.w H s.heap a (.CK r (.lst j))from I.BS a _ f)
  exact PySem.W.kia_one PySem.W.kitx_list I.GB ⟨_,g,rfl⟩ e (fun z=>nomatch z) h
 |@tup a j f=>
  cases(show u=Value.ref a from d)
  obtain⟨_,_,_,p⟩:=(show Au X.prog X.w H s.heap a (.tup j)from I.BS a _ f)
  obtain⟨o,g,k,_⟩:=p
  exact PySem.W.kia_one PySem.W.kitx_tuple I.GB ⟨o,g,k⟩ e (fun z=>nomatch z) h
 |@dK a kvs f=>
  cases(show u=Value.ref a from d)
  obtain⟨_,_,L,_,p⟩:=(show Au X.prog X.w H s.heap a (.dK kvs)from I.BS a _ f)
  obtain⟨o,v,B,g,k,_⟩:=p
  exact PySem.W.kia_one PySem.W.kitx_dict I.GB ⟨o,g,k.1⟩ e (fun z=>nomatch z) h
 |@dT a kvs f=>
  cases(show u=Value.ref a from d)
  obtain⟨_,_,j,_,o,v,B,g,k,_⟩:=(show Au X.prog X.w H s.heap a (.dT kvs)from I.BS a _ f)
  exact PySem.W.kia_one PySem.W.kitx_dict I.GB ⟨o,g,k.1⟩ e (fun z=>nomatch z) h
 |@ins a C M fs f m D F l G=>
  cases(show u=Value.ref a from d)
  obtain⟨N,O,_⟩:=Xh I.BS f
  obtain⟨P,J,_⟩:=O.look
  exact PySem.W.kia_one (PySem.W.kitx_own (m.get _) m.hd D F l G) I.GB J e (fun z=>nomatch z) h
end
structure Al (k:Nat) (A:Around):Prop where
 hd:A.handled=none
 dp:A.depth+3*k+5<recursionLimit
 un:A.units+16*k+200<cLine
 gd:A.guards=some []
theorem Al.mono {j k:Nat} {A:Around} (r:Al k A) (h:j<=k):Al j A:=⟨r.hd,by have:=r.dp;lia,by have:=r.un;lia,r.gd⟩
theorem Al.deeper {k:Nat} {A:Around} (r:Al (k+1) A) (env:Env):Al k (A.deeper env):=
 ⟨r.hd,by have:=r.dp;show A.depth+1+3*k+5<_;lia,by have:=r.un;show A.units+3+16*k+200<_;lia,r.gd⟩
theorem Al.depth {k:Nat} {A:Around} (r:Al k A):A.depth<recursionLimit:=by have:=r.dp;lia
theorem Al.units {k:Nat} {A:Around} (r:Al k A):A.units+64<cLine:=by have:=r.un;lia
theorem Al.Es {k:Nat} {A:Around} (r:Al k A):A.units<cLine:=by have:=r.un;lia
def Ub:TA:=fun _ H Q=>Q [] H
def Ky (b:TE) (tr:TA):TA:=fun a H Q=>b a H fun x c=>tr a c fun d e=>Q (x::d) e
section
variable{X:Cx} {e:Expr} {es:List Expr} {te:TE} {t:TA} {pos:Pos}
theorem AB:PA X [] Ub:=fun _ _ _ _ H Q I h=>Calls.spliced_nil ⟨[],H,I,.nil,h⟩
theorem AA (c:PE X e te) (d:PA X es t) (f:starEach (e::es) X.env=(false,eval e X.env)::starEach es X.env:=by rfl):PA X (e::es) (Ky te t):=by
 intro pos pins s b H Q I h
 rw[f]
 show wpAny _ _ (spliced ((false,eval e X.env)::backTo pos (starEach es X.env))) _ _ s
 refine Calls.spliced_cons (BZ (c pins s b H _ I h) fun u g a=>a.elim fun x i j k l=>?_)
 exact BZ (d pos pins g b i _ j l) fun r v a=>a.elim fun m n o p q=>⟨x::m,n,o,.cons k p,q⟩
def lI (t:TA):TE:=fun c H Q=>t c H fun a b=>a.length<=sizeLine/\∀p,b p=none->Q (.ref p) (upd b p (.tup a))
def lJ (t:TA):TE:=fun c H Q=>t c H fun a b=>a.length<=sizeLine/\∀p,b p=none->Q (.ref p) (upd b p (.lst a))
theorem BL {f} (h:PA X es t):PE X (.Tuple es f pos) (lI t):=by
 intro pins s g H Q I i
 refine wpAny_Tuple_spliced (BZ (h pos pins s g H _ I i) fun j a ⟨k,c,d,r,z,q⟩=>⟨by rw[<-r.length];exact z,?_⟩)
 have l:c a.heap.objs.size=none:=d.BS.fresh (Nat.le_refl _)
 refine⟨.ref a.heap.objs.size,upd c a.heap.objs.size (.tup k),d.laid (t':=a.toks) (fun b u e=>Heap.get?_push_of_some _ e) (Nat.le_refl _) ?_,rfl,q _ l⟩
 exact⟨z,j,r,⟨_,Heap.get?_push_size _ rfl,rfl,_,rfl⟩⟩
theorem A_ (h:PA X es t):PE X (.List es pos) (lJ t):=by
 intro pins s f H Q I g
 refine wpAny_List_spliced (BZ (h pos pins s f H _ I g) fun i a ⟨j,c,d,r,z,q⟩=>⟨by rw[<-r.length];exact z,?_⟩)
 have k:c a.heap.objs.size=none:=d.BS.fresh (Nat.le_refl _)
 refine⟨.ref a.heap.objs.size,upd c a.heap.objs.size (.lst j),d.laid (t':=a.toks) (fun b u e=>Heap.get?_push_of_some _ e) (Nat.le_refl _) ?_,rfl,q _ k⟩
 exact⟨z,i,0,r,Heap.get?_push_size _ rfl⟩
end
abbrev Sp:=List V->Hp->VK->XK->Prop
abbrev Sk:=List Env->Hp->Shared->XK->Value->Shared->Prop
structure Xi (P:Program) (w:World) (K:ADv) (mg:Str->Option Value) (base:Heap) (A:Around) (outer:List Env) (s:Shared) (H:Hp):Prop where
 frames:A.frames=some outer
 mod:Mod K mg base
 bs:∀b o,base.get? b=some o->s.heap.get? b=some o/\H b=none
 Zg:base.objs.size<=s.heap.objs.size
 Iv:s.heap.FunFrames base outer
 dY:∀b∈UJ outer,H b=none
 BS:Fj P w H s.heap
 bare:AllBare s.gens
inductive CE (outer:List Env) (P:Program) (w:World) (H:Hp) (s:Shared) (Q:VK) (u:Value) (a:Shared):Prop
 |mk (v:V) (b:Hp) (os:a.os=s.os) (bare:AllBare a.gens) (un:Un (UJ outer) [] H b s.heap a.heap) (c:Fj P w b a.heap) (r:RelV v u) (q:Q v b):CE outer P w H s Q u a
def CR (CX:Sk) (outer:List Env) (P:Program) (w:World) (H:Hp) (s:Shared) (Q:VK) (E:XK) (r:Result) (a:Shared):Prop:=
 match r with
 | .ok (.ret u)=>CE outer P w H s Q u a
 | .ok _=>False
 | .error e=>CX outer H s E e a
structure BG (P:Program) (w:World) (K:ADv) (mg:Str->Option Value) (base:Heap) (CX:Sk) (k:Nat) (f:Addr) (fd:FuncData) (ps:List Str) (sp:Sp):Prop where
 len:∀vs H Q E,sp vs H Q E->vs.length=ps.length
 run:∀(A:Around) (outer:List Env) (s:Shared) (H:Hp) (args:Args) (us:List Value) (vs:List V) (Q:VK) (E:XK),Al k A->Xi P w K mg base A outer s H->BindsTo s fd args (ps.zip us)->Vals vs us->sp vs H Q E->
  codeAny (model P w) A (.call (.ref f) args) (CR CX outer P w H s Q E) s
theorem BG.imp {P:Program} {w:World} {K:ADv} {mg:Str->Option Value} {base:Heap} {CX:Sk} {k:Nat} {f:Addr} {b:FuncData} {ps:List Str} {sp a:Sp} (F:BG P w K mg base CX k f b ps sp)
  (h:∀vs H Q E,a vs H Q E->sp vs H Q E):BG P w K mg base CX k f b ps a:=
 ⟨fun vs H Q E q=>F.len vs H Q E (h _ _ _ _ q),fun A outer s H args c vs Q E d e g i j=>F.run A outer s H args c vs Q E d e g i (h _ _ _ _ j)⟩
section
variable{X:Cx} {pins:List (Addr×Obj)} {σ:St} {H:Hp} {s s':Shared}
theorem Inv.lK (I:Inv X pins σ H s):Xi X.prog X.w X.K X.mg X.base X.A X.stack s H:=
 ⟨I.ok.frames,I.ok.mod,I.bs,Nat.le_trans I.ok.Zg I.sz,I.stack,I.RD,I.BS,I.bare⟩
theorem Inv.after {Q:VK} {u:Value} (I:Inv X pins σ H s) (h:CE X.stack X.prog X.w H s Q u s'):EP X pins σ Q u s':=by
 obtain⟨v,e,os,bare,un,a,r,q⟩:=h
 obtain⟨f,g,d,t,c⟩:=s'
 obtain rfl:c=s.os:=os
 exact⟨v,e,I.call (h':=f) (g':=g) (d':=d) (t':=t) (ch:=[]) un a bare (fun b z=>absurd z (by simp)),r,q⟩
end
def Uc (sp:Sp) (a:List V) (E:XK) (t:TA):TE:=fun b H Q=>t b H fun c d=>sp (c++a) d Q E
def Binds (K:ADv) (c:FuncData) (ps:List Str) (b:List Value):Prop:=
 ∀(s:Shared) (a:List Value),K.In s.heap->(a++b).length=ps.length->BindsTo s c ⟨a,[]⟩ (ps.zip (a++b))
theorem Binds.all {K:ADv} {a:FuncData} {ps:List Str} (h:∀us:List Value,us.length=ps.length->bindArgs a ⟨us,[]⟩=pure (ps.zip us)):Binds K a ps []:=fun s us _ b=>by
 rw[List.append_nil]at b⊢
 exact .of_eq (h us b)
def Passes (CX:Sk) (X:Cx) (E:XK):Prop:=∀(pins:List (Addr×Obj)) (b:St) (H:Hp) (s:Shared) (e:Value) (a:Shared),Inv X pins b H s->CX X.stack H s E e a->X.xe e a
section
variable{X:Cx} {CX:Sk} {k:Nat} {f C:Addr} {fd:FuncData} {ps:List Str} {sp:Sp} {Xj:List V} {ds:List Value} {E:XK} {x m:Str} {p pos apos:Pos} {e o:Expr} {es:List Expr} {ta:TE} {t:TA}
theorem Ud {pins:List (Addr×Obj)} {σ:St} {H:Hp} {s:Shared} {Q:VK} {us:List Value} {vs:List V} (F:BG X.prog X.w X.K X.mg X.base CX k f fd ps sp) (c:Al k X.A) (d:Binds X.K fd ps ds) (g:Vals Xj ds) (i:Passes CX X E)
  (I:Inv X pins σ H s) (r:Vals vs us) (h:sp (vs++Xj) H Q E):wpAny (model X.prog X.w) X.A (call (.ref f) us) (EP X pins σ Q) X.xe s:=by
 have b:Vals (vs++Xj) (us++ds):=r.append g
 have j:(us++ds).length=ps.length:=by rw[<-b.length];exact F.len _ _ _ _ h
 refine wpAny_call (codeAny_mono (F.run X.A X.stack s H ⟨us,[]⟩ (us++ds) (vs++Xj) Q E c I.lK (d s us I.GB j) b h) fun r l a=>?_)
 cases r with
 |error e=>exact i pins σ H s e l I a
 |ok n=>
  cases n with
  |ret u=>exact I.after a
  |next=>exact False.elim a
  |brk=>exact False.elim a
  |cont=>exact False.elim a
theorem AL (F:BG X.prog X.w X.K X.mg X.base CX k f fd ps sp) (d:Al k X.A) (g:Gl X x) (i:X.mg x=some (.ref f)) (j:PySem.W.keepIn X.K (.ref f)=true) (l:Binds X.K fd ps ds) (n:Vals Xj ds) (u:Passes CX X E)
  (v:PA X (e::es) t) (a:(x==("__debug__":Str))=false:=by decide) (y:starEach (e::es) X.env=(false,eval e X.env)::starEach es X.env:=by rfl) (b:(backTo pos (starEach es X.env)).any (·.1)=false:=by rfl):
  PE X (.Call (.Name x p) (e::es) [] pos) (Uc sp Xj E t):=by
 intro pins s z H Q I h
 refine wpAny_Call_Name_kw (RF I g i ?_ a)
 refine PySem.W.callWith_K (h₀:=X.base) I.ok.mod.eO j (BZ (v pos pins s z H _ I h) fun D G B=>B.elim fun J L c r q=>⟨c.GB,?_⟩) y b
 exact Ud F d l n u c r q
structure Mk (K:ADv) (C f:Addr):Prop where
 makes:PySem.W.makesIn K C=true
 init:PySem.W.findIn K (.ref C) "__init__"=some (some (.ref f))
 fn:PySem.W.isFn K (.ref f)=true
 kp:PySem.W.keepIn K (.ref C)=true
end
section
variable{X:Cx} {CX:Sk} {k:Nat} {f C:Addr} {fd:FuncData} {ps ks:List Str} {sp:Sp} {E:XK} {x m:Str} {p pos apos yP:Pos} {e o:Expr} {es:List Expr} {de:List Keyword} {te ta:TE} {t tk:TA} {nm:Option Str}
structure lL (K:ADv) (fd:FuncData) (ps ks:List Str) (g:List Value->List Value->List Value) (gV:List V->List V->List V):Prop where
 to:∀(s:Shared) (us ws:List Value),K.In s.heap->(g us ws).length=ps.length->BindsTo s fd ⟨us,ks.zip ws⟩ (ps.zip (g us ws))
 rel:∀{vs:List V} {us:List Value} {zs:List V} {ws:List Value},Vals vs us->Vals zs ws->Vals (gV vs zs) (g us ws)
variable{g:List Value->List Value->List Value} {gV:List V->List V->List V}
end
structure Ah (N P:List Str) (sc:Scope):Prop where
 kind:sc.kind=.function
 co:sc.isCoroutine=false
 gen:sc.isGenerator=false
 nd:N.Nodup
 pre:N.take P.length=P
 par:∀x∈P,sc.names.lookup x=some .local∨sc.names.lookup x=some .cell
 bD:∀y∈sc.names,y.2≠.free
theorem Kz {kindOf:Str->Option NameKind} {x:Str}:∀{binds:List (Str×Value)} {m:Str->Option Value},(∀v,(x,v)∉binds)->bindL kindOf binds m x=m x
 |[],_,_=>rfl
 |(n,v)::r,m,h=>by
  unfold bindL
  rw[Kz fun w hw=>h w (List.mem_cons_of_mem _ hw)]
  split
  ·have:x≠n:=by rintro rfl;exact h v List.mem_cons_self
   simp[this]
  ·rfl
theorem K_ {kindOf:Str->Option NameKind} {x:Str}:∀{binds:List (Str×Value)} {m:Str->Option Value},(∀v,(x,v)∉binds)->bindC kindOf binds m x=m x
 |[],_,_=>rfl
 |(n,v)::r,m,h=>by
  unfold bindC
  rw[K_ fun w hw=>h w (List.mem_cons_of_mem _ hw)]
  split
  ·rfl
  ·have:x≠n:=by rintro rfl;exact h v List.mem_cons_self
   simp[this]
theorem K' {kindOf:Str->Option NameKind} {x:Str} {v:Value}:∀{P:List Str} {vs:List Value} {i:Nat} {m:Str->Option Value},P.Nodup->P[i]?=some x->vs[i]?=some v->kindOf x=some .local->
  bindL kindOf (P.zip vs) m x=some v
 |[],_,_,_,_,h,_,_=>by simp at h
 |_::_,[],_,_,_,_,h,_=>by simp at h
 |p::P,w::vs,0,m,nd,a,b,c=>by
  simp at a b;subst a;subst b
  show bindL kindOf ((p,w)::P.zip vs) m p=_
  unfold bindL
  rw[Kz fun v d=>(List.nodup_cons.mp nd).1 (List.of_mem_zip d).1,if_pos c]
  simp
 |p::P,w::vs,i+1,m,nd,a,b,c=>by
  show bindL kindOf ((p,w)::P.zip vs) m x=_
  unfold bindL
  exact K' (i:=i) (List.nodup_cons.mp nd).2 (by simpa using a) (by simpa using b) c
theorem LA {kindOf:Str->Option NameKind} {x:Str} {v:Value}:∀{P:List Str} {vs:List Value} {i:Nat} {m:Str->Option Value},P.Nodup->P[i]?=some x->vs[i]?=some v->kindOf x≠some .local->
  bindC kindOf (P.zip vs) m x=some v
 |[],_,_,_,_,h,_,_=>by simp at h
 |_::_,[],_,_,_,_,h,_=>by simp at h
 |p::P,w::vs,0,m,nd,a,b,c=>by
  simp at a b;subst a;subst b
  show bindC kindOf ((p,w)::P.zip vs) m p=_
  unfold bindC
  rw[K_ fun v d=>(List.nodup_cons.mp nd).1 (List.of_mem_zip d).1,if_neg c]
  simp
 |p::P,w::vs,i+1,m,nd,a,b,c=>by
  show bindC kindOf ((p,w)::P.zip vs) m x=_
  unfold bindC
  exact LA (i:=i) (List.nodup_cons.mp nd).2 (by simpa using a) (by simpa using b) c
def start (N:List Str) (vs:List V):St:=vs.map some++List.replicate (N.length-vs.length) none
def Sl (CX:Sk) (P:Program) (w:World) (K:ADv) (mg:Str->Option Value) (base:Heap) (N:List Str) (qual:Str) (scope:Scope) (f:Addr) (cd:Value) (A:Around) (outer:List Env) (s:Shared) (H:Hp) (E:XK):Cx where
 prog:=P
 w:=w
 K:=K
 mg:=mg
 base:=base
 A:=A.deeper (envOfC qual scope s.heap.objs.size f cd)
 N:=N
 s₀:=s
 H₀:=H
 env:=envOfC qual scope s.heap.objs.size f cd
 outer:=outer
 stack:=envOfC qual scope s.heap.objs.size f cd::outer
 ex:=[]
 calm:=true
 fn:=fun _=>true
 pn:=[]
 xe:=fun e s'=>wpAny (model P w) (A.deeper (envOfC qual scope s.heap.objs.size f cd)) (leaving (envOfC qual scope s.heap.objs.size f cd) e) (fun _ jW=>CX outer H s E e jW) (fun e' jW=>CX outer H s E e' jW) s'
theorem NY {a:Scope} {n:Nat} {x:Str} (h:a.names.lookup x=some .cell):∃c,(cellsFrom n a.names []).lookup x=some c:=by
 have q:=PySem.W.cellsFrom_some a.names n [] (.inl h)
 exact Option.isSome_iff_exists.mp q
theorem Sn {CX:Sk} {P:Program} {w:World} {K:ADv} {mg:Str->Option Value} {base:Heap} {N ps:List Str} {qual:Str} {scope:Scope} {f:Addr} {t:Value} {A:Around} {outer:List Env} {s D:Shared} {H:Hp} {E:XK} {us:List Value} {vs:List V}
  (S:Ah N ps scope) (I:A.handled=none) (g:Xi P w K mg base A outer s H) (hl:vs.length=ps.length) (r:Vals vs us)
  (x:InCallC s s.heap.objs.size (bindL (envOfC qual scope s.heap.objs.size f t).kindOf (ps.zip us) fun _=>none) (cellsFrom (s.heap.objs.size+1) scope.names []) (bindC (envOfC qual scope s.heap.objs.size f t).kindOf (ps.zip us) fun _=>none) D):
  Inv (Sl CX P w K mg base N qual scope f t A outer s H E) [] (start N vs) H D:=by
 have J:ps.length<=N.length:=by have:=congrArg List.length S.pre;rw[List.length_take]at this;lia
 obtain⟨B,O,rfl,F⟩:=x.done
 have j:∀b:Addr,b∉(Sl CX P w K mg base N qual scope f t A outer s H E).ex:=fun b z=>absurd (show b∈([]:List Addr)from z) (by simp)
 refine⟨⟨g.mod,S.kind,rfl,rfl,Nat.le_refl _,fun y z c B d=>?_,fun y l=>?_,fun y c _ h=>?_,fun _=>I,Around.frames_deeper g.frames,.inr ⟨rfl,rfl⟩,fun b z=>absurd z (j b),g.bs,g.Zg,fun b _ _=>j b,fun b z=>absurd z (j b),g.Iv,g.dY⟩,
  rfl,g.bare,Un.kept F,⟨_,x.toInCall.ns,fun i y v B d Q=>?_⟩,fun y c h=>⟨_,x.cell y c h⟩,g.BS.fresh (Nat.le_refl _),fun y c h=>?_,fun p m=>absurd (show p∈([]:List (Addr×Obj))from m) (by simp),g.BS.kept F,?_⟩
 ·exact name_of_addr x.apart (PySem.mem_of_lookup B) (PySem.mem_of_lookup d)
 ·have l:scope.names.lookup y=some .cell∨scope.names.lookup y=some .free:=l
  rcases l with l|l
  ·exact NY l
  ·exact absurd rfl (S.bD _ (PySem.mem_of_lookup l))
 ·exact Nat.le_of_lt (x.above y c (PySem.mem_of_lookup h))
 ·have C:i<vs.length:=by
   unfold start at d
   by_cases C:i<vs.length
   ·exact C
   ·rw[List.getElem?_append_right (by simpa using C)]at d
    rw[List.getElem?_replicate]at d
    split at d<;>cases d
  have L:vs[i]?=some v:=by
   unfold start at d
   rw[List.getElem?_append_left (by simpa using C),List.getElem?_map]at d
   cases e:vs[i]? with
   |none=>rw[e]at d;cases d
   |some a=>rw[e]at d;cases d;rfl
  obtain⟨u,G,M⟩:=r.get L
  have m:ps[i]?=some y:=by
   rw[<-S.pre,List.getElem?_take_of_lt (by lia)];exact B
  have o:ps.Nodup:=by rw[<-S.pre];exact S.nd.sublist (List.take_sublist _ _)
  refine⟨u,M,?_⟩
  rcases S.par y (ADu m)with k|k
  ·exact .inl ⟨k,K' o m G k⟩
  ·obtain⟨c,e⟩:=NY (n:=s.heap.objs.size+1) k
   refine .inr ⟨.inl k,c,e,?_⟩
   have q:=x.cell y c e
   rw[LA o m G (by show scope.names.lookup y≠_;rw[k];decide)]at q
   exact q
 ·exact g.BS.fresh (Nat.le_of_lt (x.above y c (PySem.mem_of_lookup h)))
 ·unfold start
  show _=N.length
  rw[List.length_append,List.length_map,List.length_replicate]
  lia
theorem fQ {CX:Sk} {P:Program} {w:World} {K:ADv} {mg:Str->Option Value} {base:Heap} {k:Nat} {f:Addr} {name qual:Str} {params:Arguments} {body:List Stmt} {scope:Scope} {F kV doc G a ct R:Value} {L T:Option Addr}
  {m:Array (Option Value)} {N ps:List Str} {sp:Sp} (lk:K.lookup f=some ⟨R,T,.func (PySem.W.fnOf name qual params body scope F kV doc G L a ct),m⟩) (p:PySem.W.codeIn K a qual=true) (S:Ah N ps scope)
  (len:∀vs H Q E,sp vs H Q E->vs.length=ps.length)
  (g:∀(A:Around) (outer:List Env) (s:Shared) (H:Hp) (vs:List V) (Q:VK) (E:XK),Al k (A.deeper (envOfC qual scope s.heap.objs.size f a))->sp vs H Q E->
   ∃t,Sd (Sl CX P w K mg base N qual scope f a A outer s H E) body t/\t {nx:=fun _ d=>Q .BO d,rt:=Q} (start N vs) H):
  BG P w K mg base CX (k+1) f (PySem.W.fnOf name qual params body scope F kV doc G L a ct) ps sp:=by
 refine⟨len,fun A outer s H args U vs Q E z j X r l=>?_⟩
 have Y:=len _ _ _ _ l
 have M:K.In s.heap:=j.mod.eO.keeps fun b o e=>(j.bs b o e).1
 have B:s.heap.NoLimit:=j.mod.nolimit.keeps fun b o e=>(j.bs b o e).1
 have h:∀y∈ps.zip U,scope.names.lookup y.1=some .local∨(scope.names.lookup y.1=some .cell/\((cellsFrom (s.heap.objs.size+1) scope.names []).lookup y.1).isSome=true):=fun⟨n,v⟩ Z=>by
  rcases S.par n (List.of_mem_zip Z).1 with q|q
  ·exact .inl q
  ·exact .inr ⟨q,PySem.W.cellsFrom_some _ _ _ (.inl q)⟩
 refine codeAny_call_function z.depth (M _ _ lk) rfl S.co S.gen rfl (PySem.W.codeRec_of M p) (X _ _ _ _ ?_)
 refine wpAny_newFunctionEnv_cells S.kind h fun env he O x=>?_
 subst he
 refine⟨B.keeps x.toInCall.keep,codeAny_func ?_⟩
 obtain⟨t,ht,hq⟩:=g A outer s H vs Q E (z.deeper _) l
 have I:Inv (Sl CX P w K mg base N qual scope f a A outer s H E) [] (start N vs) H O:=Sn S z.hd j Y r x
 refine wpAny_mono (ht [] O (start N vs) H _ I hq) (fun fl C i=>?_) fun e C i=>i
 have fin:∀{c:St} {d:Hp} {v:V} {u:Value},Inv (Sl CX P w K mg base N qual scope f a A outer s H E) [] c d C->RelV v u->Q v d->CE outer P w H s Q u C:=
  fun{c d v u} J D q=>⟨v,d,J.os,J.bare,J.base,J.BS,D,q⟩
 cases fl with
 |ret u=>
  obtain⟨v,c,d,J,D,q⟩:=i
  exact fin J D q
 |next=>
  obtain⟨c,d,J,q⟩:=i
  exact fin (v:=V.BO) (u:=Value.none) J rfl q
 |brk=>
  obtain⟨_,_,_,q⟩:=i
  exact False.elim q
 |cont=>
  obtain⟨_,_,_,q⟩:=i
  exact False.elim q
section
variable{X:Cx} {x:Str} {p pos:Pos} {e:Expr} {es:List Expr} {t:TA} {id T:String} {r:List V->Hp->VK->Prop}
def jX (r:List V->Hp->VK->Prop) (t:TA):TE:=fun a H Q=>t a H fun b c=>r b c Q
theorem AM (d:BD X (.builtin id) r) (f:Gl X x) (g:X.mg x=none) (i:bootBuiltins x=some (.builtin id)) (j:PA X (e::es) t) (k:x≠"__name__":=by decide) (a:(x==("__debug__":Str))=false:=by decide)
  (l:starEach (e::es) X.env=(false,eval e X.env)::starEach es X.env:=by rfl) (b:(backTo pos (starEach es X.env)).any (·.1)=false:=by rfl):PE X (.Call (.Name x p) (e::es) [] pos) (jX r t):=by
 intro pins s c H Q I h
 refine wpAny_Call_Name_kw (Em I f g i ?_ k a)
 exact PyProof.Rows.callWith_builtin1 (BZ (j pos pins s c H _ I h) fun m n o=>o.elim fun q u v w y=>d pins n c u q m Q v w y) l b
theorem Bd (d:BD X (.type T) r) (f:Gl X x) (g:X.mg x=none) (i:bootBuiltins x=some (.type T)) (j:PA X (e::es) t) (k:x≠"__name__":=by decide) (a:(x==("__debug__":Str))=false:=by decide)
  (l:starEach (e::es) X.env=(false,eval e X.env)::starEach es X.env:=by rfl) (b:(backTo pos (starEach es X.env)).any (·.1)=false:=by rfl):PE X (.Call (.Name x p) (e::es) [] pos) (jX r t):=by
 intro pins s c H Q I h
 refine wpAny_Call_Name_kw (Em I f g i ?_ k a)
 exact PyProof.Rows.callWith_type1 (BZ (j pos pins s c H _ I h) fun m n o=>o.elim fun q u v w y=>d pins n c u q m Q v w y) l b
end
end L2
namespace HT
open PySem PyProof.Rows
def lexLt:List Int->List Int->Bool
 |[],[]=>false
 |[],_::_=>true
 |_::_,[]=>false
 |x::xs,y::ys=>if x=y then lexLt xs ys else decide (x<y)
section
open PySem.SeqAt
open PySem.AutoSeq1 (wpAny_loadPart')
open PySem.MeetsSeq PySem.MeetsSeq2 PySem.MeetsSeq3
end
section
variable{prog:Program} {w:World} {A:Around} {E:Value->Shared->Prop} {s:Shared}
theorem Xk {t b:Addr} {vs ws:List Value} {Q:Value->Shared->Prop} (r:IsTup s.heap t vs.toArray) (u:IsTup s.heap b ws.toArray) (j:vs≠[])
  (v:ws=[]->Q (.ref t) s) (x:ws≠[]->Q (.ref s.heap.objs.size) {s with heap:=s.heap.push {cls:=.type "tuple",data:=.seq (vs++ws).toArray}})
  (i:vs.length+ws.length<=sizeLine):wpAny (model prog w) A (binaryOp .Add (.ref t) (.ref b)) Q E s:=by
 obtain⟨⟨cls,k,data,l⟩,h,m,n,o⟩:=id r
 obtain⟨⟨p,c,data2,d⟩,a,f,q,g⟩:=id u
 simp only at m o f g
 subst m o f g
 have e:vs.toArray++ws.toArray=(vs++ws).toArray:=by simp
 by_cases hw:ws=[]
 ·exact concat_meets ⟨_,h,rfl⟩ ⟨_,a,rfl⟩ noFill_tuple_add seq_tuple_add PySem.F.slot_tuple_add PySem.F.entry_tuple_add (PySem.F.args_tuple_add_2 _ _)
   (tuple_addW1 t b vs.toArray ws.toArray n q k c l d (by simpa using j) (by simp[hw])) ⟨h,a,v hw⟩
 ·refine concat_meets ⟨_,h,rfl⟩ ⟨_,a,rfl⟩ noFill_tuple_add seq_tuple_add PySem.F.slot_tuple_add PySem.F.entry_tuple_add (PySem.F.args_tuple_add_2 _ _)
   (tuple_addW2 t b vs.toArray ws.toArray n q k c l d (by simpa using j) (by simpa using hw) (by rw[List.size_toArray,List.size_toArray];exact i)) ⟨h,a,?_⟩
  rw[e]
  exact x hw
def GC (n d:Nat):Option Int->Nat
 |none=>d
 |some v=>if v<0 then(v+(n:Int)).toNat else min v.toNat n
theorem RN (n d k:Nat):GC n d (some (k:Int))=min k n:=by
 show(if(k:Int)<0 then((k:Int)+(n:Int)).toNat else min (k:Int).toNat n)=min k n
 rw[if_neg (by lia),Int.toNat_natCast]
end
end HT
namespace L2
open PySem PySem.Spec PyProof.Rows
abbrev TO:=St->Hp->(Option Int->Hp->Prop)->Prop
def PO (X:Cx) (e:Option Expr) (t:TO):Prop:=
 ∀(pins:List (Addr×Obj)) (s:Shared) (a:St) (H:Hp) (Q:Option Int->Hp->Prop),Inv X pins a H s->t a H Q->
  wpAny (model X.prog X.w) X.A (evalPart e X.env) (fun u c=>∃o b,Inv X pins a b c/\IsPart u o/\Q o b) X.xe s
def Xl:TO:=fun _ H Q=>Q none H
def fR (t:TE):TO:=fun a H Q=>t a H fun x b=>vO x b Q
section
variable{X:Cx} {e:Expr} {te:TE} {lo hi:Option Expr} {tl th:TO} {pos p2:Pos}
theorem FJ:PO X none Xl:=by
 intro pins s a H Q I h
 rw[evalPart_none]
 exact wpAny_pure ⟨none,H,I,.none,h⟩
theorem DV (h:PE X e te):PO X (some e) (fR te):=by
 intro pins s a H Q I hw
 rw[evalPart_some]
 refine BZ (h pins s a H _ I hw) fun u j b=>b.elim fun x c d f g=>?_
 obtain⟨i,rfl,q⟩:=g
 obtain⟨t,rfl⟩:=f
 exact⟨some i,c,d,.int i t,q⟩
def lM (X:Cx) (r:V->Option Int->Option Int->Hp->VK->Prop):Prop:=
 ∀(pins:List (Addr×Obj)) (s:Shared) (a:St) (H:Hp) (x:V) (v b c:Value) (lo hi:Option Int) (d:Addr) (Q:VK),Inv X pins a H s->RelV x v->s.heap.IsSliceOf d b c .none->IsPart b lo->IsPart c hi->r x lo hi H Q->
  ∃T id,typeLookup (.type T) "__getitem__"=pure (some (.builtin id))/\s.TypeIs v T/\wpAny (model X.prog X.w) X.A (getItem v (.ref d)) (EP X pins a Q) X.xe s
def yQ (r:V->Option Int->Option Int->Hp->VK->Prop) (te:TE) (tl th:TO):TE:=fun a H Q=>te a H fun x b=>tl a b fun l c=>th a c fun u d=>r x l u d Q
theorem DD {r:V->Option Int->Option Int->Hp->VK->Prop} (i:lM X r) (j:PE X e te) (hl:PO X lo tl) (k:PO X hi th):PE X (.Subscript e (.Slice lo hi none p2) pos) (yQ r te tl th):=by
 intro pins s c H Q I h
 refine Subscript_ (BZ (j pins s c H _ I h) fun v m n=>n.elim fun x o p t y=>?_)
 refine wpAny_Slice (BZ (hl pins m c o _ p y) fun d z ⟨l,B,C,pl,D⟩=>BZ (k pins z c B _ C D) fun f a ⟨u,g,E,F,G⟩=>?_)
 rw[evalPart_none]
 refine wpAny_pure ?_
 have J:Inv X pins c g {a with heap:=a.heap.push {cls:=.type "slice",data:=.fields #[d,f,.none]}}:=E.kept (t':=a.toks) fun b N q=>Heap.get?_push_of_some _ q
 obtain⟨T,id,K,L,M⟩:=i pins {a with heap:=a.heap.push {cls:=.type "slice",data:=.fields #[d,f,.none]}} c g x v d f l u a.heap.objs.size Q J t (Heap.IsSliceOf.new ..) pl F G
 show wpAny (model X.prog X.w) X.A (subscriptTail e (.Slice lo hi none p2) v (.ref a.heap.objs.size)) (EP X pins c Q) X.xe {a with heap:=a.heap.push {cls:=.type "slice",data:=.fields #[d,f,.none]}}
 exact tail_any (ops:=[.ref a.heap.objs.size,v]) L K M (by with_unfolding_all rfl)
def Ki (xs:List V) (lo hi:Option Int):List V:=(xs.drop (HT.GC xs.length 0 lo)).take (HT.GC xs.length xs.length hi-HT.GC xs.length 0 lo)
theorem NZ (xs:List V) (lo hi:Option Int):(Ki xs lo hi).length<=xs.length:=by
 unfold Ki
 rw[List.length_take,List.length_drop]
 lia
inductive fS (K:ADv) (x:V) (lo:Option Int) (hi:Option Int) (H:Hp) (Q:VK):Prop
 |mk (a:_) (xs:_) (b:x=.ref a) (c:BY K H a xs) (d:¬(HT.GC xs.length 0 lo=0/\HT.GC xs.length xs.length hi=xs.length)) (f:∀p,H p=none->Q (.ref p) (upd H p (.tup (Ki xs lo hi)))):fS K x lo hi H Q
inductive fU (K:ADv) (x:V) (y:V) (H:Hp) (Q:VK):Prop
 |mk (a:_) (b:_) (c:_) (d:_) (f:x=.ref a) (g:y=.ref b) (h:BY K H a (c.map V.int)) (i:BY K H b (d.map V.int)) (j:Q (.bl (HT.lexLt c d)) H):fU K x y H Q
inductive Ue (K:ADv) (x:V) (y:V) (H:Hp) (Q:VK):Prop
 |mk (a:_) (b:_) (xs:_) (ys:_) (c:x=.ref a) (d:y=.ref b) (f:BY K H a xs) (g:BY K H b ys) (h:xs≠[]) (i:xs.length+ys.length<=sizeLine) (j:(ys=[]->Q (.ref a) H)) (k:(ys≠[]->∀p,H p=none->Q (.ref p) (upd H p (.tup (xs++ys))))):Ue K x y H Q
def fV (K:ADv):R2:=fun x y H Q=>Ue K x y H Q
theorem Vals.GF {xs:List V} {us:List Value} (r:Vals xs us):us=[]↔xs=[]:=by
 cases r with
 |nil=>simp
 |cons _ _=>simp
theorem RO:DC X (binaryOp .Add) (fV X.K):=by
 intro pins s C H x y v u Q I i j h
 obtain⟨a,b,k,l,rfl,rfl,m,n,p,f,r,t⟩:=h
 cases i
 cases j
 obtain⟨A,d,B,_⟩:=I.tuple m
 obtain⟨g,c,p2,_⟩:=I.tuple n
 refine HT.Xk B p2 (fun z=>p (d.GF.mp z)) (fun z=>⟨.ref a,H,I,rfl,r (c.GF.mp z)⟩) (fun z=>?_) (by rw[<-d.length,<-c.length];exact f)
 refine⟨.ref s.heap.objs.size,_,I.laid (t':=s.toks) (o:=.tup (k++l)) (fun b D q=>Heap.get?_push_of_some _ q) (Nat.le_refl _) ?_,rfl,t (fun w=>z (c.GF.mpr w)) _ (I.BS.fresh (Nat.le_refl _))⟩
 exact⟨by rw[List.length_append];exact f,_,d.append c,IsTup.new _ _⟩
inductive JB (K:ADv) (xs:List V) (H:Hp) (Q:VK):Prop
 |mk (a:_) (ys:_) (b:xs=[.ref a]) (c:BY K H a ys) (d:Q (.ref a) H):JB K xs H Q
end
def So (n:Nat) (i:Int):Option Nat:=if 0<=i then(if i<n then some i.toNat else none)else if-(n:Int)<=i then some (i+n).toNat else none
def Na {a:Type} (xs:List a) (i:Int):Option a:=(So xs.length i).bind fun j=>xs[j]?
theorem GG {n:Nat} {i:Int} {j:Nat} (h:So n i=some j):seqIndex? i n=some j/\j<n/\ -(n:Int)<=i/\i<n:=by
 unfold So at h
 by_cases b:0<=i
 ·rw[if_pos b]at h
  by_cases a:i<n
  ·rw[if_pos a]at h
   have e:i.toNat=j:=ADt h
   exact⟨by rw[seqIndex_of b a,e],by lia,by lia,a⟩
  ·rw[if_neg a]at h;cases h
 ·rw[if_neg b]at h
  by_cases a: -(n:Int)<=i
  ·rw[if_pos a]at h
   have e:(i+n).toNat=j:=ADt h
   exact⟨by rw[seqIndex_neg (by lia) a,e],by lia,a,by lia⟩
  ·rw[if_neg a]at h;cases h
theorem Ib {a:Type} {xs:List a} {i:Int} {v:a} (h:Na xs i=some v):∃j,seqIndex? i xs.length=some j/\xs[j]?=some v/\j<xs.length/\ -(xs.length:Int)<=i/\i<xs.length:=by
 unfold Na at h
 cases e:So xs.length i with
 |none=>rw[e]at h;cases h
 |some j=>
  rw[e]at h
  obtain⟨b,c,d,f⟩:=GG e
  exact⟨j,b,h,c,d,f⟩
theorem Aq {a:Type} {xs:List a} {j:Nat} {v:a} (h:xs[j]?=some v):Na xs (j:Int)=some v:=by
 have b:j<xs.length:=(ADs h).1
 have e:So xs.length (j:Int)=some j:=by
  unfold So
  rw[if_pos (by lia),if_pos (by lia)];simp
 unfold Na;rw[e];exact h
def Xm (b:Expr):Prop:=∀o i,subscripted b false o i=operate [o,i] (getItem o i)
def jY (X:Cx) (r:R2):Prop:=
 ∀(value slice:Expr) (pins:List (Addr×Obj)) (s:Shared) (a:St) (H:Hp) (x y:V) (v u:Value) (Q:VK),Inv X pins a H s->RelV x v->RelV y u->r x y H Q->
  subscripted slice false v u=operate [v,u] (getItem v u)->wpAny (model X.prog X.w) X.A (subscriptTail value slice v u) (EP X pins a Q) X.xe s
def vT (X:Cx) (id:String) (r:V->List V->Hp->VK->Prop):Prop:=
 ∀(pins:List (Addr×Obj)) (s:Shared) (a:St) (H:Hp) (x:V) (b:List V) (v:Value) (c:List Value) (Q:VK),Inv X pins a H s->RelV x v->Vals b c->r x b H Q->
  wpAny (model X.prog X.w) X.A (call (.builtin id) (v::c)) (EP X pins a Q) X.xe s
section
variable{X:Cx} {a b:Expr} {ta tb:TE} {pos:Pos}
theorem AO {r:R2} (c:jY X r) (d:PE X a ta) (e:PE X b tb) (f:Xm b):PE X (.Subscript a b pos) (Xf r ta tb):=by
 intro pins s g H Q I h
 exact Subscript_ (a_ d e I h fun v u i x y j k l m q=>c a b pins i g j x y v u Q k l m q (f _ _))
inductive Zm (K:ADv) (x:V) (y:V) (H:Hp) (Q:VK):Prop
 |mk (p:_) (xs:_) (i:_) (v:_) (c:x=.ref p) (d:y=.int i) (e:Ap K H p xs) (f:Na xs i=some v) (g:Q v H):Zm K x y H Q
def B' (K:ADv):R2:=fun x y H Q=>Zm K x y H Q
inductive Zn (K:ADv) (x:V) (y:V) (H:Hp) (Q:VK):Prop
 |mk (p:_) (xs:_) (i:_) (v:_) (c:x=.ref p) (d:y=.int i) (e:BY K H p xs) (f:Na xs i=some v) (g:Q v H):Zn K x y H Q
def Aw (K:ADv):R2:=fun x y H Q=>Zn K x y H Q
inductive Zo (x:V) (y:V) (H:Hp) (Q:VK):Prop
 |mk (z:_) (i:_) (c:_) (d:x=.str z) (e:y=.int i) (f:z.length<=sizeLine) (g:Na z.cps.toList i=some c) (h:Q (.str ⟨#[c]⟩) H):Zo x y H Q
def lN:R2:=fun x y H Q=>Zo x y H Q
theorem As:jY X (B' X.K):=by
 intro value slice pins s g H x y v u Q I n o h k
 obtain⟨p,J,i,z,rfl,rfl,A,B,q⟩:=h
 cases n
 obtain⟨t,rfl⟩:=o
 obtain⟨d,r,pl,L⟩:=I.list A
 obtain⟨j,c,C,M,D,E⟩:=Ib B
 obtain⟨w,l,e⟩:=r.get C
 have F:=r.length
 have N:=G'
 have fin:EP X pins g Q w s:=⟨z,H,I,e,q⟩
 by_cases m:0<=i
 ·have f:i.toNat=j:=by
   rw[seqIndex_of m E]at c
   exact ADt c
  exact item_listR pl.isList m (by lia) (by rw[f];simpa using l) fin k
 ·have f:(i+(d.toArray.size:Int)).toNat=j:=by
   rw[seqIndex_neg (by lia) D]at c
   rw[List.size_toArray,<-F]
   exact ADt c
  exact subscriptTail_builtinR (x:=w) pl.isList.typeIs slot_list_getitem.lookup
   (wpAny_getItem_list_neg (Q:=fun r G=>r=w/\EP X pins g Q r G) pl.isList (by lia) (by rw[List.size_toArray]<;>lia) (by lia) (by rw[f];simpa using l) ⟨rfl,fin⟩) k
theorem AU:jY X (Aw X.K):=by
 intro value slice pins s d H x y v u Q I e f h g
 obtain⟨p,D,i,z,rfl,rfl,k,l,q⟩:=h
 cases e
 obtain⟨t,rfl⟩:=f
 obtain⟨m,r,pl,E⟩:=I.tuple k
 obtain⟨j,n,o,F,G,J⟩:=Ib l
 obtain⟨w,A,c⟩:=r.get o
 have B:=r.length
 have L:=G'
 have fin:EP X pins d Q w s:=⟨z,H,I,c,q⟩
 exact subscriptTail_builtinR (x:=w) pl.typeIs slot_tuple_getitem.lookup
  (getItem_tuple (j:=j) (Q:=fun r C=>r=w/\EP X pins d Q r C) pl (by lia) (by lia) (by rw[List.size_toArray,<-B];exact n) (by simpa using A) ⟨rfl,fin⟩) g
theorem P':jY X lN:=by
 intro value slice pins s w H x y v u Q I e f h g
 obtain⟨z,i,c,rfl,rfl,A,k,q⟩:=h
 obtain⟨t,rfl⟩:=e
 obtain⟨B,rfl⟩:=f
 obtain⟨j,d,l,C,m,n⟩:=Ib k
 have o:z.cps.toList.length=z.length:=by simp[Str.length]
 rw[o]at d m n
 have D:=G'
 exact tail_any (typeIs_str s z t) slot_str_getitem.lookup (getItem_str (c:=c) (by
  have p:decide (i< -(2 ^ 63:Int))=false:=decide_eq_false (by lia)
  have r:decide (i≥2 ^ 63)=false:=decide_eq_false (by lia)
  rw[p,r,Bool.or_false]) (by rw[d];simpa using l) ⟨.str ⟨#[c]⟩,H,I.tok _,⟨_,rfl⟩,q⟩) g
theorem QA (its:List Value) (n j:Nat) (u:Value):Obj.mapSeq (·.setIfInBounds j u) {cls:=.type "list",data:=.seq its.toArray n}={cls:=.type "list",data:=.seq (its.set j u).toArray n}:=by
 simp[Obj.mapSeq]
theorem Inv.lst {pins:List (Addr×Obj)} {σ:St} {H:Hp} {s:Shared} {p:Addr} {xs:List V} (I:Inv X pins σ H s) (h:H p=some (.lst xs)):
  ∃(its:List Value) (n:Nat),Vals xs its/\s.heap.get? p=some {cls:=.type "list",data:=.seq its.toArray n}/\xs.length<=sizeLine:=by
 obtain⟨z,its,n,r,e⟩:=I.BS p _ h
 exact⟨its,n,r,e,z⟩
theorem Inv.bE {pins:List (Addr×Obj)} {σ:St} {H:Hp} {s:Shared} {p:Addr} {xs ys:List V} {its its':List Value} {n c:Nat} {f:Obj->Obj} (I:Inv X pins σ H s) (h:H p=some (.lst xs))
  (g:s.heap.get? p=some {cls:=.type "list",data:=.seq its.toArray n}) (d:f {cls:=.type "list",data:=.seq its.toArray n}={cls:=.type "list",data:=.seq its'.toArray c}) (r:Vals ys its') (i:ys.length<=sizeLine) (t:Nat):
  Inv X pins σ (upd H p (.lst ys)) {s with heap:=s.heap.update p f,toks:=t}:=by
 have e:(s.heap.update p f).get? p=some {cls:=.type "list",data:=.seq its'.toArray c}:=by
  rw[Heap.get?_update_self f g (by rw[d]<;>rfl),d]
 refine I.write (x:=p) (e:=p) (by rw[h];trivial) (.inl rfl) (fun b u j q=>(Heap.get?_update_other _ _ (Ne.symm j)).trans q) ⟨_,e⟩ ?_
 exact⟨i,its',c,r,e⟩
inductive Ug (o:V) (i:V) (v:V) (H:Hp) (Q:(Hp->Prop)):Prop
 |mk (p:_) (xs:_) (k:_) (j:_) (c:o=.ref p) (d:i=.int k) (e:H p=some (.lst xs)) (f:So xs.length k=some j) (g:Q (upd H p (.lst (xs.set j v)))):Ug o i v H Q
def fW:V->V->V->Hp->(Hp->Prop)->Prop:=fun o i v H Q=>Ug o i v H Q
theorem set_list:eW X fW:=by
 intro pins s z H o i v ov G u Q I A B C h
 obtain⟨p,D,k,j,rfl,rfl,l,E,q⟩:=h
 cases A
 obtain⟨t,rfl⟩:=B
 obtain⟨c,n,r,e,F⟩:=I.lst l
 obtain⟨d,J,m,w⟩:=GG E
 have f:=r.length
 have K:=G'
 have x:Inv X pins z (upd H p (.lst (D.set j v))) {s with heap:=s.heap.update p (Obj.mapSeq (·.setIfInBounds j u))}:=
  I.bE l e (QA c n j u) (r.set C j) (by rw[List.length_set];exact F) s.toks
 by_cases y:0<=k
 ·have g:k.toNat=j:=by
   rw[seqIndex_of y w]at d
   exact ADt d
  exact PySem.W.ki_setAt e y (by lia) (by rw[List.size_toArray,<-f];exact w) (by rw[g];exact⟨_,x,q⟩)
 ·have g:(k+(c.toArray.size:Int)).toNat=j:=by
   rw[seqIndex_neg (by lia) m]at d
   rw[List.size_toArray,<-f]
   exact ADt d
  exact PySem.W.ki_setBack e (by lia) (by rw[List.size_toArray,<-f];exact m) (by lia) (by rw[g];exact⟨_,x,q⟩)
theorem ML (lo c:Option Int) (n:Nat):(sliceBounds lo c none n).1=((HT.GC n 0 lo:Nat):Int)/\(sliceBounds lo c none n).2.1=((HT.GC n n c:Nat):Int)/\(sliceBounds lo c none n).2.2=1:=by
 refine⟨?_,?_,rfl⟩
 ·cases lo with
  |none=>simp[sliceBounds,HT.GC]
  |some i=>
   simp only[sliceBounds,HT.GC,Option.getD_none,show(1:Int)>0 by decide,if_true]
   by_cases h:i<0
   ·simp only[h,if_true]<;>lia
   ·simp only[h,if_false]<;>lia
 ·cases c with
  |none=>simp[sliceBounds,HT.GC]
  |some i=>
   simp only[sliceBounds,HT.GC,Option.getD_none,show(1:Int)>0 by decide,if_true]
   by_cases h:i<0
   ·simp only[h,if_true]<;>lia
   ·simp only[h,if_false]<;>lia
theorem Kj (its:List Value) (lo c:Option Int):slicePick its.toArray lo c none=((its.drop (HT.GC its.length 0 lo)).take (HT.GC its.length its.length c-HT.GC its.length 0 lo)).toArray:=by
 obtain⟨d,e,f⟩:=ML lo c its.toArray.size
 unfold slicePick
 rw[d,e,f]
 simp only[sliceRange_one,pick_run,List.size_toArray]<;>rfl
inductive Zp (K:ADv) (x:V) (lo:Option Int) (c:Option Int) (H:Hp) (Q:VK):Prop
 |mk (a:_) (xs:_) (d:x=.ref a) (e:Ap K H a xs) (f:∀p,H p=none->Q (.ref p) (upd H p (.lst (Ki xs lo c)))):Zp K x lo c H Q
def Xn (K:ADv):V->Option Int->Option Int->Hp->VK->Prop:=fun x lo c H Q=>Zp K x lo c H Q
theorem MM:lM X (Xn X.K):=by
 intro pins s m H x v n p lo d t Q I f g pl i h
 obtain⟨a,c,rfl,j,q⟩:=h
 cases f
 obtain⟨k,r,e,l⟩:=I.list j
 have hlen:=r.length
 refine⟨"list",_,slot_list_getitem.lookup,e.isList.typeIs,?_⟩
 refine wpAny_getItem_list_slice e.isList g pl i .none (by simp) ?_ (by rw[List.size_toArray]<;>lia)
 rw[Kj,<-hlen]
 refine⟨.ref s.heap.objs.size,_,I.laid (t':=s.toks) (o:=.lst (Ki c lo d)) (fun b u q=>Heap.get?_push_of_some _ q) (Nat.le_refl _) ?_,rfl,q _ (I.BS.fresh (Nat.le_refl _))⟩
 exact⟨Nat.le_trans (NZ c lo d) l,_,0,(r.drop (HT.GC c.length 0 lo)).take (HT.GC c.length c.length d-HT.GC c.length 0 lo),Heap.get?_push_size _ rfl⟩
def CI:V->Bool
 | .BO=>true
 | .bl _=>true
 | .int _=>true
 | .str _=>true
 |_=>false
def MN:V->V->Bool
 | .BO,.BO=>true
 | .bl a,.bl b=>a==b
 | .bl a,.int b=>(if a then 1 else 0)==b
 | .int a,.bl b=>a==(if b then 1 else 0)
 | .int a,.int b=>a==b
 | .str a,.str b=>a==b
 |_,_=>false
theorem Uh {A:Around} {s:Shared} {y x:V} {u v:Value} (e:RelV y u) (c:RelV x v) (g:CI y=true) (f:CI x=true):SeqAt.EqAt A s u v (MN y x):=by
 cases y with
 |BO=>
  cases e
  cases x with
  |BO=>cases c;exact SeqAt.EqAt.same _
  |bl b=>cases c;exact SeqAt.EqAt.none_bool b
  |int b=>obtain⟨t,rfl⟩:=c;exact SeqAt.EqAt.none_int b t
  |str b=>obtain⟨t,rfl⟩:=c;exact SeqAt.EqAt.none_str b t
  |_=>exact absurd (show false=true from f) Bool.false_ne_true
 |bl a=>
  cases e
  cases x with
  |BO=>cases c;exact SeqAt.EqAt.bool_none a
  |bl b=>cases c;exact SeqAt.EqAt.bool_bool a b
  |int b=>obtain⟨t,rfl⟩:=c;exact SeqAt.EqAt.bool_int a b t
  |str b=>obtain⟨t,rfl⟩:=c;exact SeqAt.EqAt.bool_str a b t
  |_=>exact absurd (show false=true from f) Bool.false_ne_true
 |int a=>
  obtain⟨d,rfl⟩:=e
  cases x with
  |BO=>cases c;exact SeqAt.EqAt.int_none a d
  |bl b=>cases c;exact SeqAt.EqAt.int_bool a d b
  |int b=>obtain⟨t,rfl⟩:=c;exact SeqAt.EqAt.int_int a d b t
  |str b=>obtain⟨t,rfl⟩:=c;exact SeqAt.EqAt.int_str a d b t
  |_=>exact absurd (show false=true from f) Bool.false_ne_true
 |str a=>
  obtain⟨d,rfl⟩:=e
  cases x with
  |BO=>cases c;exact SeqAt.EqAt.str_none a d
  |bl b=>cases c;exact SeqAt.EqAt.str_bool a d b
  |int b=>obtain⟨t,rfl⟩:=c;exact SeqAt.EqAt.str_int a d b t
  |str b=>obtain⟨t,rfl⟩:=c;exact SeqAt.EqAt.str_str a d b t
  |_=>exact absurd (show false=true from f) Bool.false_ne_true
 |_=>exact absurd (show false=true from g) Bool.false_ne_true
def QB (x:V) (u:Value):Bool:=match u with
 | .none=>MN .BO x
 | .bool b=>MN (.bl b) x
 | .int i _=>MN (.int i) x
 | .str z _=>MN (.str z) x
 |_=>false
theorem Ui {x y:V} {u:Value} (r:RelV y u) (f:CI y=true):QB x u=MN y x:=by
 cases y with
 |BO=>cases r;rfl
 |bl b=>cases r;rfl
 |int i=>obtain⟨t,rfl⟩:=r;rfl
 |str z=>obtain⟨t,rfl⟩:=r;rfl
 |_=>exact absurd (show false=true from f) Bool.false_ne_true
theorem GH {x:V}:∀{xs:List V} {us:List Value},Vals xs us->xs.all CI=true->us.any (QB x)=xs.any fun y=>MN y x
 |_,_,.nil,_=>rfl
 |y::xs,u::us,.cons r t,f=>by
  rw[List.all_cons,Bool.and_eq_true]at f
  rw[List.any_cons,List.any_cons,Ui r f.1,GH t f.2]
theorem Et {A:Around} {s:Shared} {x:V} {v:Value} (d:RelV x v) (e:CI x=true):∀{xs:List V} {us:List Value},Vals xs us->xs.all CI=true->∀u∈us,SeqAt.EqAt A s u v (QB x u)
 |_,_,.nil,_=>fun u c=>by cases c
 |y::xs,u::us,.cons r t,f=>fun u' c=>by
  rw[List.all_cons,Bool.and_eq_true]at f
  rcases List.mem_cons.mp c with rfl|c
  ·rw[Ui r f.1];exact Uh r d f.1 e
  ·exact Et d e t f.2 u' c
def Pe (x:V) (xs:List V):Bool:=xs.any fun y=>MN y x
inductive fY (K:ADv) (c:Bool) (x:V) (y:V) (H:Hp) (Q:VK):Prop
 |mk (p:_) (xs:_) (d:y=.ref p) (e:(Ap K H p xs∨BY K H p xs)) (f:CI x=true) (g:xs.all CI=true) (h:Q (.bl (if c then !Pe x xs else Pe x xs)) H):fY K c x y H Q
def df (K:ADv) (c:Bool):R2:=fun x y H Q=>fY K c x y H Q
theorem LB:DC X (compareOp .In) (df X.K false):=by
 intro pins s j H x y v u Q I e g h
 obtain⟨p,k,rfl,d,f,fs,q⟩:=h
 cases g
 rcases d with d|d
 ·obtain⟨c,r,pl,i⟩:=I.list d
  refine SeqAt.in_listAt (QB x) pl.isList (fun w hw=>Et e f r fs w (by simpa using hw)) ⟨.bl _,H,I,rfl,?_⟩
  rw[show c.toArray.any (QB x)=c.any (QB x)by simp,GH r fs]
  exact q
 ·obtain⟨c,r,pl,i⟩:=I.tuple d
  refine SeqAt.in_tupleAt (QB x) pl (fun w hw=>Et e f r fs w (by simpa using hw)) ⟨.bl _,H,I,rfl,?_⟩
  rw[show c.toArray.any (QB x)=c.any (QB x)by simp,GH r fs]
  exact q
theorem GK:DC X (compareOp .NotIn) (df X.K true):=by
 intro pins s j H x y v u Q I e g h
 obtain⟨p,k,rfl,d,f,fs,q⟩:=h
 cases g
 rcases d with d|d
 ·obtain⟨c,r,pl,i⟩:=I.list d
  refine SeqAt.notIn_listAt (QB x) pl.isList (fun w hw=>Et e f r fs w (by simpa using hw)) ⟨.bl _,H,I,rfl,?_⟩
  rw[show c.toArray.any (QB x)=c.any (QB x)by simp,GH r fs]
  exact q
 ·obtain⟨c,r,pl,i⟩:=I.tuple d
  refine SeqAt.notIn_tupleAt (QB x) pl (fun w hw=>Et e f r fs w (by simpa using hw)) ⟨.bl _,H,I,rfl,?_⟩
  rw[show c.toArray.any (QB x)=c.any (QB x)by simp,GH r fs]
  exact q
inductive IQ (x:V) (y:V) (H:Hp) (Q:VK):Prop
 |mk (i:_) (j:_) (c:x=.str i) (d:y=.str j) (e:Q (.bl (!(!(Builtin.Str.occurrences j i 0 j.length 1).isEmpty))) H):IQ x y H Q
inductive Ef (K:ADv) (xs:List V) (H:Hp) (Q:VK):Prop
 |mk (p:_) (ys:_) (c:xs=[.ref p]) (d:(Ap K H p ys∨BY K H p ys)) (e:Q (.int ys.length) H):Ef K xs H Q
def Eu (K:ADv):List V->Hp->VK->Prop:=fun c H Q=>Ef K c H Q
theorem Ad:BD X (.builtin "len") (Eu X.K):=by
 intro pins s j H k l Q I r h
 obtain⟨p,f,rfl,c,q⟩:=h
 obtain⟨u,rfl,g⟩:=vals1 r
 cases g
 have m:=G'
 rcases c with c|c
 ·obtain⟨d,e,pl,i⟩:=I.list c
  have hlen:=e.length
  exact Calls.call_len_list pl.isList (by simp only[List.size_toArray]<;>lia) ⟨.int f.length,H,I.tok _,⟨s.toks+1,by rw[List.size_toArray,hlen]⟩,q⟩
 ·obtain⟨d,e,pl,i⟩:=I.tuple c
  have hlen:=e.length
  exact len_tuple pl (by simp only[List.size_toArray]<;>lia) ⟨.int f.length,H,I.tok _,⟨s.toks+1,by rw[List.size_toArray,hlen]⟩,q⟩
inductive IS (xs:List V) (H:Hp) (Q:VK):Prop
 |mk (z:_) (c:xs=[.str z]) (d:z.length<=sizeLine) (e:Q (.int z.length) H):IS xs H Q
inductive Eg (K:ADv) (xs:List V) (H:Hp) (Q:VK):Prop
 |mk (p:_) (ys:_) (c:xs=[.ref p]) (d:(Ap K H p ys∨BY K H p ys)) (e:∀l,H l=none->Q (.ref l) (upd H l (.lst ys))):Eg K xs H Q
def JC (K:ADv):List V->Hp->VK->Prop:=fun c H Q=>Eg K c H Q
theorem EL:BD X (.type "list") (JC X.K):=by
 intro pins s y H A B Q I r h
 obtain⟨p,l,rfl,i,q⟩:=h
 obtain⟨u,rfl,z⟩:=vals1 r
 cases z
 have fin:∀(c:List Value),Vals l c->l.length<=sizeLine->∀(d:Heap) (f:Nat),(∀b x,s.heap.get? b=some x->d.get? b=some x)->
   d.get? s.heap.objs.size=some {cls:=.type "list",dict:=none,data:=.seq c.toArray f,slots:= #[]}->EP X pins y Q (.ref s.heap.objs.size) {s with heap:=d}:=fun c g j d f k e=>
  ⟨.ref s.heap.objs.size,_,I.laid (t':=s.toks) k (Nat.le_refl _) (show Au X.prog X.w _ d _ (.lst l)from⟨j,c,f,g,e⟩),rfl,q _ (I.BS.fresh (Nat.le_refl _))⟩
 rcases i with i|i
 ·obtain⟨c,g,pl,j⟩:=I.list i
  have hlen:=g.length
  obtain⟨o,m,t,n,v⟩:=pl.isList
  exact call_list_seq p (.inl rfl) m t v (fun d f k e=>fin c g j d f k e) (by simp only[List.size_toArray]<;>lia)
 ·obtain⟨c,g,pl,j⟩:=I.tuple i
  have hlen:=g.length
  obtain⟨o,m,t,n,v⟩:=pl
  exact call_list_seq p (.inr rfl) m t v (fun d f k e=>fin c g j d f k e) (by simp only[List.size_toArray]<;>lia)
inductive Dq (K:ADv) (xs:List V) (H:Hp) (Q:VK):Prop
 |mk (p:_) (ys:_) (c:xs=[.ref p]) (d:((Ap K H p ys/\∀l,H l=none->Q (.ref l) (upd H l (.tup ys)))∨(BY K H p ys/\Q (.ref p) H))):Dq K xs H Q
def IT (K:ADv):List V->Hp->VK->Prop:=fun c H Q=>Dq K c H Q
theorem Kk:BD X (.type "tuple") (IT X.K):=by
 intro pins s i H v x Q I r h
 obtain⟨p,j,rfl,h⟩:=h
 obtain⟨u,rfl,m⟩:=vals1 r
 cases m
 rcases h with⟨f,q⟩|⟨f,q⟩
 ·obtain⟨c,g,pl,k⟩:=I.list f
  have hlen:=g.length
  refine call_tuple_list pl.isList (fun d n=>?_) (by simp only[List.size_toArray]<;>lia)
  have l:Inv X pins i H {s with heap:=d}:=I.kept (t':=s.toks) n
  have t:Inv X pins i (upd H d.objs.size (.tup j)) {s with heap:=d.push {cls:=.type "tuple",data:=.seq c.toArray}}:=
   l.laid (t':=s.toks) (fun b o e=>Heap.get?_push_of_some _ e) (Nat.le_refl _) (show Au X.prog X.w _ _ _ (.tup j)from⟨k,c,g,IsTup.new _ _⟩)
  exact⟨.ref d.objs.size,_,t,rfl,q _ (l.BS.fresh (Nat.le_refl _))⟩
 ·obtain⟨c,g,pl,k⟩:=I.tuple f
  exact call_tuple_same pl ⟨.ref p,H,I,rfl,q⟩
def lO (K:ADv) (T:String) (x:V) (H:Hp):Prop:=match x with
 | .str _=>T="str"
 | .int _=>T="int"
 | .ref p=>(T="list"/\∃c,Ap K H p c)∨(T="tuple"/\∃o,K.lookup p=some o/\o.cls=.type "tuple"/\o.dict=none)∨
   (T="dict"/\((∃kvs,H p=some (.dK kvs))∨∃kvs,H p=some (.dT kvs)))∨(T="set"/\∃S n,H p=some (.set S n))
 |_=>False
theorem Uj {pins:List (Addr×Obj)} {σ:St} {H:Hp} {s:Shared} {T:String} {x:V} {v:Value} (I:Inv X pins σ H s) (r:RelV x v) (ty:lO X.K T x H):
  s.TypeIs v T/\∀a,v=.ref a->∃j,s.heap.get? a=some j/\j.dict=none:=by
 cases x with
 |str z=>
  obtain⟨t,rfl⟩:=r
  cases(show T="str"from ty)
  exact⟨typeIs_str s z t,fun _ e=>nomatch e⟩
 |int i=>
  obtain⟨t,rfl⟩:=r
  cases(show T="int"from ty)
  exact⟨typeIs_int s i t,fun _ e=>nomatch e⟩
 |ref p=>
  cases r
  rcases ty with⟨rfl,q,k⟩|⟨rfl,o,d,l,g⟩|⟨rfl,d⟩|⟨rfl,S,n,d⟩
  ·obtain⟨m,_,pl,_⟩:=I.list k
   refine⟨pl.isList.typeIs,fun a e=>?_⟩
   cases e
   obtain⟨o,n,e,c,g,_⟩:=pl
   exact⟨o,e,g⟩
  ·refine⟨⟨o,I.GB p o d,l⟩,fun a e=>?_⟩
   cases e
   exact⟨o,I.GB _ o d,g⟩
  ·have z:∃o,s.heap.get? p=some o/\o.ExactDict:=by
    rcases d with⟨kvs,d⟩|⟨kvs,d⟩
    ·obtain⟨_,_,_,_,o,_,_,e,f,_⟩:=I.BS p _ d
     exact⟨o,e,f⟩
    ·obtain⟨_,_,_,_,o,_,_,e,f,_⟩:=I.BS p _ d
     exact⟨o,e,f⟩
   obtain⟨o,e,f⟩:=z
   refine⟨⟨o,e,f.1⟩,fun a h=>?_⟩
   cases h
   exact⟨o,e,f.2.1⟩
  ·obtain⟨o,_,_,_,e,f,_⟩:=I.BS p _ d
   refine⟨⟨o,e,f.1⟩,fun a h=>?_⟩
   cases h
   exact⟨o,e,f.2.1⟩
 |_=>exact False.elim ty
def lP (K:ADv) (T:String) (r:V->List V->Hp->VK->Prop) (d:TE):TE:=fun e H Q=>d e H fun x c=>lO K T x c/\r x [] c Q
def yR (K:ADv) (T:String) (r:V->List V->Hp->VK->Prop) (e:TE) (t:TA):TE:=fun c H Q=>e c H fun x d=>lO K T x d/\t c d fun f g=>r x f g Q
variable{o e:Expr} {es:List Expr} {to:TE} {t:TA} {name:Str} {apos DR:Pos} {T id:String} {r:V->List V->Hp->VK->Prop}
theorem Uk (k:PlainAttrs T) (slot:Slot T name id) (f:typeOf (.builtin id)=pure (.type "method_descriptor")) (l:vT X id r) (m:PE X o to)
  (c:attributeBase o name X.env (eval o X.env)=eval o X.env:=by rfl) (d:(apos.endLine==DR.line)=true:=by rfl):PE X (.Call (.Attribute o name apos) [] [] DR) (lP X.K T r to):=by
 intro pins s g H Q I h
 refine wpAny_Call_method0_late c d (BZ (m pins s g H _ I h) fun v n ⟨x,p,i,j,ty,q⟩=>?_)
 obtain⟨u,w⟩:=Uj i j ty
 exact⟨T,id,k,slot,f,u,w,Calls.callWith_builtin rfl (PySem.evalArgs_none (l pins n g p x [] v [] Q i j .nil q))⟩
theorem JD (m:PlainAttrs T) (slot:Slot T name id) (i:typeOf (.builtin id)=pure (.type "method_descriptor")) (n:vT X id r) (p:PE X o to) (q:PA X (e::es) t)
  (d:attributeBase o name X.env (eval o X.env)=eval o X.env:=by rfl)
  (g:((backTo DR (starEach (e::es) X.env)).all (fun x=> !x.1)&&(backToKw DR (keywordEach [] X.env)).all (fun x=>x.1.isSome)
   &&decide ((e::es).length+([]:List Keyword).length+(if([]:List Keyword).isEmpty then 0 else 1)<30))=true:=by rfl)
  (f:(apos.endLine==DR.line)=true:=by rfl) (u:starEach (e::es) X.env=(false,eval e X.env)::starEach es X.env:=by rfl) (c:(backTo DR (starEach es X.env)).any (·.1)=false:=by rfl):
  PE X (.Call (.Attribute o name apos) (e::es) [] DR) (yR X.K T r to t):=by
 intro pins s j H Q I h
 refine wpAny_Call_method_late d g f rfl (BZ (p pins s j H _ I h) fun v w ⟨x,y,k,l,ty,z⟩=>?_)
 obtain⟨A,B⟩:=Uj k l ty
 refine⟨T,id,m,slot,i,A,B,?_⟩
 have hA:=q DR pins w j y _ k z
 rw[u]at hA⊢
 refine Calls.callWith_builtin (by show(false||(backTo DR (starEach es X.env)).any (·.1))=false;rw[c]<;>rfl) (Calls.evalArgs_plain ?_)
 exact BZ hA fun C D E=>E.elim fun F G J L M=>n pins D j G x F v C Q J l L M
end
def fZ (X:Cx) (id:String) (r:V->List V->Hp->VK->Prop):Prop:=
 ∀(pins:List (Addr×Obj)) (s:Shared) (a:St) (H:Hp) (x:V) (b:List V) (v:Value) (c:List Value) (Q:VK),Inv X pins a H s->RelV x v->Vals b c->r x b H Q->
  wpAny (model X.prog X.w) X.A (call (.builtin id) (v::c)) (EP X pins a Q) X.xe s
theorem Vals.zero {us:List Value} (r:Vals [] us):us=[]:=List.eq_nil_of_length_eq_zero (Paired.length r).symm
theorem Vals.one {x:V} {us:List Value} (r:Vals [x] us):∃u,us=[u]/\RelV x u:=by
 obtain⟨u,a,rfl,h,t⟩:=r.inv
 rw[t.zero]
 exact⟨u,rfl,h⟩
theorem Vals.dropLast {xs:List V} {us:List Value} (h:Vals xs us):Vals xs.dropLast us.dropLast:=by
 induction h with
 |nil=>exact .nil
 |cons r t a=>
  cases t with
  |nil=>exact .nil
  |cons q b=>exact .cons r a
theorem Vals.eraseIdx:∀{xs:List V} {us:List Value} (i:Nat),Vals xs us->Vals (xs.eraseIdx i) (us.eraseIdx i)
 |_,_,_,.nil=>.nil
 |_,_,0,.cons _ t=>t
 |_,_,i+1,.cons r t=>.cons r (Vals.eraseIdx i t)
theorem Vals.rep {xs:List V} {us:List Value} (h:Vals xs us):∀k:Nat,Vals (List.replicate k xs).flatten (List.replicate k us).flatten
 |0=>.nil
 |k+1=>by
  rw[List.replicate_succ,List.replicate_succ,List.flatten_cons,List.flatten_cons]
  exact Vals.append h (Vals.rep h k)
theorem QC {a:Type} (l:List a):l.eraseIdx (l.length-1)=l.dropLast:=List.eraseIdx_length_sub_one
theorem LC {a:Type}:∀(l:List a) (i:Nat),(l.eraseIdx i).length<=l.length
 |[],_=>Nat.le_refl _
 |_::_,0=>Nat.le_succ _
 |_::r,i+1=>Nat.succ_le_succ (LC r i)
theorem foldl_rep (its:List Value):∀(k:Nat) (a:List Value),
  List.foldl (fun b c=>b++c) a.toArray (List.replicate k its.toArray)=(a++(List.replicate k its).flatten).toArray
 |0,a=>by simp
 |k+1,a=>by
  have e:a.toArray++its.toArray=(a++its).toArray:=by simp
  have d:(a++its)++(List.replicate k its).flatten=a++(List.replicate (k+1) its).flatten:=by
   rw[List.replicate_succ,List.flatten_cons,List.append_assoc]
  rw[<-d,<-foldl_rep its k (a++its),<-e,List.replicate_succ,List.foldl_cons]
section
variable{X:Cx} {pins:List (Addr×Obj)} {σ:St} {H:Hp} {s:Shared} {l b:Addr} {xs ys zs:List V}
theorem Inv.Xo {its its':List Value} {n:Nat} {f:Array Value->Array Value} {t':Nat} (I:Inv X pins σ H s) (a:H l=some (.lst xs))
  (e:s.heap.get? l=some {cls:=.type "list",data:=.seq its.toArray n}) (c:f its.toArray=its'.toArray) (d:Vals ys its') (g:ys.length<=sizeLine):
  Inv X pins σ (upd H l (.lst ys)) {s with heap:=s.heap.update l (Obj.mapSeq f),toks:=t'}:=by
 have q:=PySem.IsL.update e f
 rw[c]at q
 refine I.write (x:=l) (e:=l) (by rw[a];exact trivial) (.inl rfl) (fun j u h i=>(Heap.get?_update_other s.heap (Obj.mapSeq f) (Ne.symm h)).trans i) ⟨_,q⟩ ?_
 exact⟨g,its',_,d,q⟩
theorem Inv.bF {its:List Value} {t':Nat} (I:Inv X pins σ H s) (a:Vals ys its) (hz:ys.length<=sizeLine):
  Inv X pins σ (upd H s.heap.objs.size (.lst ys)) {s with heap:=s.heap.push {cls:=.type "list",data:=.seq its.toArray},toks:=t'}:=
 I.laid (fun _ _ q=>Heap.get?_push_of_some _ q) (Nat.le_refl _) ⟨hz,its,0,a,Heap.get?_push_size _ rfl⟩
theorem Inv.fresh (I:Inv X pins σ H s):H s.heap.objs.size=none:=I.BS.fresh (Nat.le_refl _)
theorem Inv.Nb (I:Inv X pins σ H s) (a:H l=some (.lst xs)):xs.length<=sizeLine/\∃(its:List Value) (n:Nat),Vals xs its/\xs.length=its.length/\s.heap.get? l=some {cls:=.type "list",data:=.seq its.toArray n}:=by
 obtain⟨z,its,n,r,e⟩:=I.BS l _ a
 exact⟨z,its,n,r,r.length,e⟩
theorem Nc {n:Nat} (h:n<=sizeLine):Builtin.List.listTooLong n=false:=by
 unfold Builtin.List.listTooLong
 exact decide_eq_false (by lia)
end
section
variable{X:Cx}
inductive Nf (x:V) (vs:List V) (H:Hp) (Q:VK):Prop
 |mk (l:_) (xs:_) (y:_) (a:x=.ref l) (b:vs=[y]) (c:H l=some (.lst xs)) (d:xs.length<sizeLine) (e:Q .BO (upd H l (.lst (xs++[y])))):Nf x vs H Q
def Xp:V->List V->Hp->VK->Prop:=fun x a H Q=>Nf x a H Q
theorem FK:fZ X "list.append" Xp:=by
 intro pins s g H x i v j Q I c d h
 obtain⟨l,k,y,rfl,rfl,b,m,q⟩:=h
 cases c
 obtain⟨u,rfl,f⟩:=d.one
 obtain⟨z,a,n,r,o,e⟩:=I.Nb b
 refine call_meets F.slot_list_append ⟨_,e,rfl⟩ F.entry_list_append (F.args_list_append_2 _ _) (PySem.list_append l a.toArray n u (by rw[List.size_toArray];lia)) ⟨e,?_⟩
 refine⟨.BO,_,I.Xo (its':=a++[u]) b e (by simp) (r.append (.cons f .nil)) ?_,rfl,q⟩
 rw[List.length_append,List.length_singleton]
 lia
inductive Ng (x:V) (vs:List V) (H:Hp) (Q:VK):Prop
 |mk (l:_) (b:_) (xs:_) (zs:_) (a:x=.ref l) (c:vs=[.ref b]) (d:H l=some (.lst xs)) (e:H b=some (.lst zs)) (f:xs.length+zs.length<=sizeLine) (g:Q .BO (upd H l (.lst (xs++zs)))):Ng x vs H Q
def Xq:V->List V->Hp->VK->Prop:=fun x a H Q=>Ng x a H Q
theorem LF:fZ X "list.extend" Xq:=by
 intro pins s y H x A v B Q I i j h
 obtain⟨l,b,C,D,rfl,rfl,g,k,E,q⟩:=h
 cases i
 obtain⟨u,rfl,m⟩:=j.one
 cases m
 obtain⟨z,c,n,r,G,e⟩:=I.Nb g
 obtain⟨z2,a,o,p,t,w⟩:=I.Nb k
 have f:c.toArray.size+a.toArray.size<=sizeLine:=by rw[List.size_toArray,List.size_toArray];lia
 have d:¬(!c.toArray.isEmpty&&Builtin.List.listTooLong (c.toArray.size+a.toArray.size))=true:=by
  rw[Nc f,Bool.and_false]
  exact Bool.false_ne_true
 refine call_meets F.slot_list_extend ⟨_,e,rfl⟩ F.entry_list_extend (F.args_list_extend_2 _ _)
  (AutoSeq1.list_extend_list_list_0 l c.toArray n b a.toArray o d (by rw[List.size_toArray];lia) (by lia)) ⟨e,w,?_⟩
 refine⟨.BO,_,I.Xo (its':=c++a) g e (by simp) (r.append p) ?_,rfl,q⟩
 rw[List.length_append]
 lia
inductive Zq (x:V) (vs:List V) (H:Hp) (Q:VK):Prop
 |mk (l:_) (xs:_) (y:_) (a:x=.ref l) (b:vs=[]) (c:H l=some (.lst xs)) (d:xs[xs.length-1]?=some y) (e:Q y (upd H l (.lst xs.dropLast))):Zq x vs H Q
def lQ:V->List V->Hp->VK->Prop:=fun x a H Q=>Zq x a H Q
theorem bH:fZ X "list.pop" lQ:=by
 intro pins s o H x p v t Q I f g h
 obtain⟨l,w,y,rfl,rfl,d,i,q⟩:=h
 cases f
 have b:=g.zero
 subst b
 obtain⟨z,a,n,r,j,e⟩:=I.Nb d
 obtain⟨u,k,m⟩:=r.get i
 have c:a.toArray[a.toArray.size-1]?=some u:=by
  show a.toArray[a.length-1]?=some u
  rw[<-Array.getElem?_toList,<-j]
  exact k
 refine call_meets F.slot_list_pop ⟨_,e,rfl⟩ F.entry_list_pop (F.args_list_pop_1 _) (MeetsSeq.list_pop_last l a.toArray n u c (by rw[List.size_toArray];lia)) ⟨e,?_⟩
 refine⟨y,_,I.Xo (its':=a.dropLast) d e ?_ r.dropLast ?_,m,q⟩
 ·show a.toArray.eraseIdxIfInBounds (a.toArray.size-1)=a.dropLast.toArray
  rw[List.size_toArray,List.eraseIdxIfInBounds_toArray,QC]
 ·rw[List.length_dropLast]
  lia
inductive RP (x:V) (vs:List V) (H:Hp) (Q:VK):Prop
 |mk (l:_) (xs:_) (i:_) (k:_) (y:_) (a:x=.ref l) (b:vs=[.int i]) (c:H l=some (.lst xs)) (d: -(2 ^ 63)<=i) (e:i<2 ^ 63) (f:seqIndex? i xs.length=some k) (g:xs[k]?=some y) (h:Q y (upd H l (.lst (xs.eraseIdx k)))):RP x vs H Q
def bK:V->List V->Hp->VK->Prop:=fun x a H Q=>RP x a H Q
theorem Nh:fZ X "list.pop" bK:=by
 intro pins s C H x D v E Q I d f h
 obtain⟨l,g,i,k,y,rfl,rfl,c,j,m,o,p,q⟩:=h
 cases d
 obtain⟨u,rfl,A⟩:=f.one
 obtain⟨t,rfl⟩:=A
 obtain⟨z,a,n,r,B,e⟩:=I.Nb c
 obtain⟨w,hw,b⟩:=r.get p
 refine call_meets F.slot_list_pop ⟨_,e,rfl⟩ F.entry_list_pop (F.args_list_pop_2 _ _)
  (MeetsSeq.list_pop_at l a.toArray n i t k w (fitsIndex_both j m) (by rw[List.size_toArray,<-B];exact o) (by rw[<-Array.getElem?_toList];exact hw) (by rw[List.size_toArray];lia)) ⟨e,?_⟩
 refine⟨y,_,I.Xo (its':=a.eraseIdx k) c e ?_ (r.eraseIdx k) ?_,b,q⟩
 ·show a.toArray.eraseIdxIfInBounds k=(a.eraseIdx k).toArray
  rw[List.eraseIdxIfInBounds_toArray]
 ·have:=LC g k
  lia
inductive Sq (x:V) (vs:List V) (H:Hp) (Q:VK):Prop
 |mk (l:_) (xs:_) (a:x=.ref l) (b:vs=[]) (c:H l=some (.lst xs)) (d:Q .BO (upd H l (.lst xs.reverse))):Sq x vs H Q
inductive Xr (x:V) (vs:List V) (H:Hp) (Q:VK):Prop
 |mk (l:_) (xs:_) (a:x=.ref l) (b:vs=[]) (c:H l=some (.lst xs)) (d:Q .BO (upd H l (.lst []))):Xr x vs H Q
inductive Zr (x:V) (y:V) (H:Hp) (Q:VK):Prop
 |mk (l:_) (b:_) (xs:_) (zs:_) (a:x=.ref l) (c:y=.ref b) (d:H l=some (.lst xs)) (e:H b=some (.lst zs)) (f:xs.length+zs.length<=sizeLine) (g:∀p,H p=none->Q (.ref p) (upd H p (.lst (xs++zs)))):Zr x y H Q
def fe:R2:=fun x y H Q=>Zr x y H Q
theorem JE:DC X (binaryOp .Add) fe:=by
 intro pins s p H x y v u Q I d f h
 obtain⟨l,b,t,w,rfl,rfl,g,i,A,q⟩:=h
 cases d
 cases f
 obtain⟨z,c,n,r,B,e⟩:=I.Nb g
 obtain⟨z2,a,C,j,k,m⟩:=I.Nb i
 refine PySem.P.add_list e m ?_ (by rw[List.size_toArray,List.size_toArray];lia)
 have o:c.toArray++a.toArray=(c++a).toArray:=by simp
 rw[o]
 exact⟨.ref _,_,I.bF (t':=s.toks) (r.append j) (by rw[List.length_append];lia),rfl,q _ I.fresh⟩
inductive Zs (x:V) (y:V) (H:Hp) (Q:VK):Prop
 |mk (l:_) (k:_) (xs:_) (a:x=.ref l) (b:y=.int k) (c:H l=some (.lst xs)) (d: -(2 ^ 63)<=k) (e:k<2 ^ 63) (f:xs.length*k.toNat<=sizeLine) (g:∀p,H p=none->Q (.ref p) (upd H p (.lst (List.replicate k.toNat xs).flatten))):Zs x y H Q
def ff:R2:=fun x y H Q=>Zs x y H Q
theorem len_rep {a:Type} (xs:List a) (k:Nat):(List.replicate k xs).flatten.length=k*xs.length:=by
 induction k with
 |zero=>simp
 |succ k b=>rw[List.replicate_succ,List.flatten_cons,List.length_append,b,Nat.succ_mul,Nat.add_comm]
theorem Ul:DC X (binaryOp .Mult) ff:=by
 intro pins s J H x y v u Q I p w h
 obtain⟨l,k,K,rfl,rfl,A,B,C,o,q⟩:=h
 cases p
 obtain⟨t,rfl⟩:=w
 obtain⟨z,b,n,r,D,e⟩:=I.Nb A
 have hlen:b.toArray.size*k.toNat<=sizeLine:=by rw[List.size_toArray,<-D];exact o
 have d:¬b.toArray.size*k.toNat>(2 ^ 63-1)/8:=by
  have:(sizeLine:Nat)<=(2 ^ 63-1)/8:=by decide
  lia
 have f:¬(!Builtin.List.listFitsIndex k)=true:=by
  rw[fitsIndex_both B C]
  exact Bool.false_ne_true
 have c:¬Builtin.List.listTooLong (b.toArray.size*k.toNat)=true:=by
  rw[Nc hlen]
  exact Bool.false_ne_true
 have g:List.foldl (fun i j=>i++j) #[] (List.replicate (if b.toArray.isEmpty=true then 0 else k.toNat) b.toArray)=(List.replicate k.toNat b).flatten.toArray:=by
  have E:∀m:Nat,List.foldl (fun i j=>i++j) #[] (List.replicate m b.toArray)=(List.replicate m b).flatten.toArray:=fun m=>by
   have:=foldl_rep b m []
   rw[List.nil_append]at this
   exact this
  rw[E]
  cases b with
  |nil=>simp
  |cons a L=>rw[if_neg (by simp)]
 refine wpAny_binaryOp_repeat_ref (T:="list") (U:="int") (by decide) ⟨_,e,rfl⟩ (fun G=>typeIs_int G k t) noFill_list_mul F.fills_int_mul F.slot_int_rmul repeat_list F.slot_int_index.lookup
  (call_meets F.slot_int_rmul (typeIs_int s k t) F.entry_int_rmul (F.args_int_rmul_2 _ _) (int___rmul___int_list k t l b.toArray n)
   ⟨e,rfl,⟨_,e,rfl⟩,call_meets F.slot_list_mul ⟨_,e,rfl⟩ F.entry_list_mul (F.args_list_mul_2 _ _) (AutoListH.list___mul___list_int_3 l b.toArray n k t f d c) ⟨e,?_⟩⟩)
 rw[g]
 exact⟨.ref _,_,I.bF (t':=s.toks) (r.rep k.toNat) (by rw[len_rep,Nat.mul_comm];exact o),rfl,q _ I.fresh⟩
end
section
variable{prog:Program} {w:World} {A:Around} {E:Value->Shared->Prop} {s:Shared}
end
section
variable{X:Cx}
end
section
variable{κ:Type} [DecidableEq κ]
def CF (kvs:List (κ×V)) (k:κ):Option V:=(kvs.find? fun a=>decide (a.1=k)).map (·.2)
def putK (kvs:List (κ×V)) (k:κ) (v:V):List (κ×V):=
 if(kvs.any fun a=>decide (a.1=k))=true then kvs.map (fun a=>if a.1=k then(a.1,v)else a)else kvs++[(k,v)]
def Ni (kvs:List (κ×V)) (k:κ):List (κ×V):=kvs.filter fun a=>decide (a.1≠k)
theorem DE {p:κ×V} {r:List (κ×V)} {k:κ} (e:p.1=k):CF (p::r) k=some p.2:=by simp[CF,List.find?_cons,e]
theorem DF {p:κ×V} {r:List (κ×V)} {k:κ} (e:¬p.1=k):CF (p::r) k=CF r k:=by simp[CF,List.find?_cons,e]
theorem DG (k:κ):∀kvs:List (κ×V),(kvs.any fun a=>decide (a.1=k))=(CF kvs k).isSome
 |[]=>rfl
 |p::r=>by
  rw[List.any_cons]
  by_cases e:p.1=k
  ·simp only[DE e,decide_eq_true e,Bool.true_or,Option.isSome_some]
  ·rw[DF e,decide_eq_false e,Bool.false_or];exact DG k r
theorem Ew (kvs:List (κ×V)) (k:κ) (v:V):(putK kvs k v).length<=kvs.length+1:=by
 unfold putK
 split
 ·rw[List.length_map];lia
 ·rw[List.length_append,List.length_cons,List.length_nil];lia
theorem Nj {kvs:List (κ×V)} {k:κ} (v:V) (h:CF kvs k=none):putK kvs k v=kvs++[(k,v)]:=by
 unfold putK
 rw[DG,h]
 exact if_neg (by decide)
theorem IK.Dr {o:Option V} {u:Option Value} (r:IK o u):o.isSome=u.isSome:=by
 cases o with
 |none=>cases u with
  |none=>rfl
  |some _=>exact(show False from r).elim
 |some _=>cases u with
  |none=>exact(show False from r).elim
  |some _=>rfl
theorem KV.val {kvs:List (κ×V)} {vs:List (κ×Value)} (r:KV kvs vs) (k:κ):IK (CF kvs k) (valueAt vs k):=by
 unfold KV at r
 induction r with
 |nil=>exact True.intro
 |@cons p q i a h t f=>
  obtain⟨d,g⟩:=h
  by_cases e:p.1=k
  ·have c:q.1=k:=d.symm.trans e
   have b:valueAt (q::a) k=some q.2:=by simp[valueAt,List.find?_cons,c]
   rw[DE e,b];exact g
  ·have c:¬q.1=k:=fun z=>e (d.trans z)
   have b:valueAt (q::a) k=valueAt a k:=by simp[valueAt,List.find?_cons,c]
   rw[DF e,b];exact f
theorem KV.any {kvs:List (κ×V)} {vs:List (κ×Value)} (r:KV kvs vs) (k:κ):(kvs.any fun a=>decide (a.1=k))=vs.any fun a=>decide (a.1=k):=by
 unfold KV at r
 induction r with
 |nil=>rfl
 |cons h t b=>rw[List.any_cons,List.any_cons,b,h.1]
theorem KV.bL {kvs:List (κ×V)} {vs:List (κ×Value)} (r:KV kvs vs) (k:κ) {y:V} {u:Value} (c:RelV y u):
  KV (kvs.map fun a=>if a.1=k then(a.1,y)else a) (vs.map fun a=>if a.1=k then(a.1,u)else a):=by
 unfold KV at r⊢
 induction r with
 |nil=>exact .nil
 |@cons p q g i h t d=>
  rw[List.map_cons,List.map_cons]
  refine .cons ?_ d
  obtain⟨b,f⟩:=h
  by_cases e:p.1=k
  ·rw[if_pos e,if_pos (b.symm.trans e)];exact⟨b,c⟩
  ·rw[if_neg e,if_neg (fun z=>e (b.trans z))];exact⟨b,f⟩
theorem KV.put {kvs:List (κ×V)} {vs:List (κ×Value)} (r:KV kvs vs) (k:κ) {y:V} {u:Value} (a:RelV y u):KV (putK kvs k y) (stored vs k u):=by
 unfold putK stored
 rw[r.any k]
 by_cases e:(vs.any fun b=>decide (b.1=k))=true
 ·rw[if_pos e,if_pos e];exact r.bL k a
 ·rw[if_neg e,if_neg e];exact Paired.snoc r ⟨rfl,a⟩
theorem KV.drop {kvs:List (κ×V)} {vs:List (κ×Value)} (r:KV kvs vs) (k:κ):KV (Ni kvs k) (without vs k):=by
 unfold KV at r⊢
 unfold Ni without
 induction r with
 |nil=>exact .nil
 |@cons p q i j h t d=>
  obtain⟨c,f⟩:=h
  rw[List.filter_cons,List.filter_cons]
  by_cases e:p.1=k
  ·have a:¬decide (p.1≠k)=true:=by simp[e]
   have b:¬decide (q.1≠k)=true:=by simp[c.symm.trans e]
   rw[if_neg a,if_neg b];exact d
  ·have g:¬q.1=k:=fun z=>e (c.trans z)
   have a:decide (p.1≠k)=true:=by simp[e]
   have b:decide (q.1≠k)=true:=by simp[g]
   rw[if_pos a,if_pos b];exact .cons ⟨c,f⟩ d
theorem KV.keys {kvs:List (κ×V)} {vs:List (κ×Value)} (r:KV kvs vs):kvs.map (·.1)=vs.map (·.1):=by
 unfold KV at r
 induction r with
 |nil=>rfl
 |cons h t a=>rw[List.map_cons,List.map_cons,a,h.1]
theorem KV.length {kvs:List (κ×V)} {vs:List (κ×Value)} (r:KV kvs vs):kvs.length=vs.length:=Paired.length r
theorem Um (kvs:List (κ×V)) (k:κ):(Ni kvs k).length<=kvs.length:=List.length_filter_le _ _
end
theorem GL {P:Program} {w:World} {k:Key} {u:Value} (r:RelV (kV k) u):(An P w).is k u=true:=by
 cases k with
 |inl i=>obtain⟨t,e⟩:=(show∃t,u=Value.int i t from r);subst e;exact NM P w i t
 |inr x=>obtain⟨t,e⟩:=(show∃t,u=Value.str x t from r);subst e;exact NN P w x t
theorem LG {P:Program} {w:World}:∀{ks:List Key} {us:List Value},Vals (ks.map kV) us->ItemsAre (An P w) ks us
 |[],_,r=>by rw[List.map_nil]at r;cases r;exact .nil
 |k::ks,_,r=>by
  rw[List.map_cons]at r
  cases r with
  |cons h t=>exact .cons (GL h) (LG t)
abbrev KT (H:Hp):List (List Key×V)->List (List Key×Addr×Value)->Prop:=Paired fun p q=>p.1=q.1/\H q.2.1=some (.tup (p.1.map kV))/\RelV p.2 q.2.2
theorem KT.val {H:Hp} {kvs:List (List Key×V)} {xs:List (List Key×Addr×Value)} (r:KT H kvs xs) (k:List Key):IK (CF kvs k) ((atKey xs k).map (·.2)):=by
 induction r with
 |nil=>exact True.intro
 |@cons p q i a h t f=>
  obtain⟨d,_,g⟩:=h
  by_cases e:p.1=k
  ·have c:q.1=k:=d.symm.trans e
   have b:atKey (q::a) k=some q.2:=by simp[atKey,List.find?_cons,c]
   rw[DE e,b];exact g
  ·have c:¬q.1=k:=fun z=>e (d.trans z)
   have b:atKey (q::a) k=atKey a k:=by simp[atKey,List.find?_cons,c]
   rw[DF e,b];exact f
theorem KT.bL {H:Hp} {kvs:List (List Key×V)} {xs:List (List Key×Addr×Value)} (r:KT H kvs xs) (k:List Key) {y:V} {u:Value} (d:RelV y u):
  KT H (kvs.map fun b=>if b.1=k then(b.1,y)else b) (xs.map (putAt k u)):=by
 induction r with
 |nil=>exact .nil
 |@cons p q i j h t f=>
  rw[List.map_cons,List.map_cons]
  refine .cons ?_ f
  obtain⟨a,c,g⟩:=h
  unfold putAt
  by_cases e:p.1=k
  ·rw[if_pos e,if_pos (a.symm.trans e)];exact⟨a,c,d⟩
  ·rw[if_neg e,if_neg (fun z=>e (a.trans z))];exact⟨a,c,g⟩
theorem KT.put {H:Hp} {kvs:List (List Key×V)} {xs:List (List Key×Addr×Value)} (r:KT H kvs xs) (k:List Key) {b:Addr} {y:V} {u:Value} (c:H b=some (.tup (k.map kV))) (a:RelV y u):
  KT H (putK kvs k y) (storedH xs k b u):=by
 have e:(kvs.any fun d=>decide (d.1=k))=(atKey xs k).isSome:=by
  rw[DG,(r.val k).Dr,Option.isSome_map]
 unfold putK storedH
 rw[e]
 by_cases q:(atKey xs k).isSome=true
 ·rw[if_pos q,if_pos q];exact r.bL k a
 ·rw[if_neg q,if_neg q];exact Paired.snoc r ⟨rfl,c,a⟩
theorem KT.keeps {H a:Hp} {kvs:List (List Key×V)} {xs:List (List Key×Addr×Value)} (r:KT H kvs xs) (c:∀b ys,H b=some (.tup ys)->a b=some (.tup ys)):KT a kvs xs:=
 Paired.eM r fun _ _ z=>⟨z.1,c _ _ z.2.1,z.2.2⟩
section
variable{P:Program} {w:World} {H:Hp} {h:Heap} {a:Addr}
theorem Zt {u:HO} (ok:Fj P w H h) (e:Rd H a u):Au P w H h a u:=e.ok ok
theorem Eh {kvs:List (Key×V)} (ok:Fj P w H h) (e:Rd H a (.dK kvs)):kvs.length<=sizeLine/\(a==sysModules)=false/\∃vs,KV kvs vs/\h.DictOf (An P w) a vs:=
 show Au P w H h a (.dK kvs)from Zt ok e
theorem Uo {kvs:List (Key×V)} (ok:Fj P w H h) (e:H a=some (.dK kvs)):kvs.length<=sizeLine/\(a==sysModules)=false/\∃vs,KV kvs vs/\h.DictOf (An P w) a vs:=Eh ok (.inl e)
theorem JF {ks:List Key} (ok:Fj P w H h) (e:H a=some (.tup (ks.map kV))):(tupleKind (An P w)).is h ks a:=by
 obtain⟨_,b,r,o,c,d,n,f⟩:=(show Au P w H h a (.tup (ks.map kV))from ok a _ e)
 exact⟨o,b.toArray,n,c,d,f,by simpa using LG r⟩
theorem LH {kvs:List (List Key×V)} (ok:Fj P w H h) (e:Rd H a (.dT kvs)):kvs.length<=sizeLine/\(a==sysModules)=false/\
  ∃xs,KT H kvs xs/\h.DictOfH (tupleKind (An P w)) a xs:=by
 obtain⟨z,y,xs,r,o,d,f,g,i,j,k,n⟩:=(show Au P w H h a (.dT kvs)from Zt ok e)
 refine⟨z,y,xs,r,o,d,f,g,i,j,k,fun x b=>?_,n⟩
 have all:∀{l:List (List Key×V)} {m:List (List Key×Addr×Value)},KT H l m->∀x∈m,(tupleKind (An P w)).is h x.1 x.2.1:=by
  intro l m q
  induction q with
  |nil=>intro x b;exact nomatch b
  |@cons p q u v c t s=>
   intro x b
   rcases List.mem_cons.mp b with e|b
   ·subst e
    exact JF ok (by rw[<-c.1];exact c.2.1)
   ·exact s x b
 exact all r x b
theorem fg {kvs:List (List Key×V)} (ok:Fj P w H h) (e:H a=some (.dT kvs)):kvs.length<=sizeLine/\(a==sysModules)=false/\
  ∃xs,KT H kvs xs/\h.DictOfH (tupleKind (An P w)) a xs:=LH ok (.inl e)
end
def Nk (H:Hp) (a:Addr) (y:V) (r:Option V):Prop:=
 (∃kvs k,Rd H a (.dK kvs)/\y=kV k/\r=CF kvs k)∨∃kvs k b,Rd H a (.dT kvs)/\y=.ref b/\H b=some (.tup (k.map kV))/\r=CF kvs k
def Sr (H:Hp) (a:Addr) (y v:V) (c:Hp):Prop:=
 (∃kvs k,H a=some (.dK kvs)/\y=kV k/\kvs.length<sizeLine/\c=upd H a (.dK (putK kvs k v)))∨
 ∃kvs k b,H a=some (.dT kvs)/\y=.ref b/\H b=some (.tup (k.map kV))/\kvs.length<sizeLine/\c=upd H a (.dT (putK kvs k v))
theorem Sr.k {H:Hp} {a:Addr} {kvs:List (Key×V)} {k:Key} {v:V} (e:H a=some (.dK kvs)) (hl:kvs.length<sizeLine):Sr H a (kV k) v (upd H a (.dK (putK kvs k v))):=.inl ⟨kvs,k,e,rfl,hl,rfl⟩
section
variable{X:Cx} {pins:List (Addr×Obj)} {σ:St} {H:Hp} {s:Shared} {a:Addr} {y v:V} {u r:Value} {o:Option V} {A:Around} {E:Value->Shared->Prop}
theorem Inv.big (I:Inv X pins σ H s):sysModules<s.heap.objs.size:=by
 have h:mainGlobals<s.heap.objs.size:=(I.mod.glob.keeps I.bk).lt
 exact Nat.lt_trans (by decide) h
theorem Ss {Q:Value->Shared->Prop} (t:A.units+1<cLine) (I:Inv X pins σ H s) (g:Nk H a y (some v)) (n:RelV y u) (h:∀f q,Inv X pins σ H q->RelV v f->Q f q):
  wpAny (model X.prog X.w) A (getItem (.ref a) u) Q E s:=by
 rcases g with⟨kvs,k,e,i,l⟩|⟨kvs,k,b,e,i,x,l⟩
 ·subst i
  obtain⟨z,B,C,c,j⟩:=Eh I.BS e
  obtain⟨f,hw,d⟩:=IK.some_of (v:=v) (o:=valueAt C k) (by rw[l];exact c.val k)
  exact wpAny_getItem_of (GL n) j.mapOf hw (h f _ (I.tok _) d)
 ·subst i
  cases(show u=Value.ref b from n)
  obtain⟨z,B,D,c,j⟩:=LH I.BS e
  obtain⟨f,hw,d⟩:=IK.some_of (v:=v) (o:=(atKey D k).map (·.2)) (by rw[l];exact c.val k)
  obtain⟨p,F,m⟩:=Option.map_eq_some_iff.mp hw
  refine wpAny_getItem_heap (tupleKind_room_in1 t) (JF I.BS x) j F ?_
  rw[m]
  exact h f _ (I.tok _) d
theorem lR {Q:Value->Shared->Prop} (n:A.units+1<cLine) (I:Inv X pins σ H s) (g:Nk H a y o) (j:RelV y u) (h:∀m,Inv X pins σ H m->Q (.bool o.isSome) m):
  wpAny (model X.prog X.w) A (compareOp .In u (.ref a)) Q E s:=by
 rcases g with⟨kvs,k,e,d,l⟩|⟨kvs,k,b,e,d,p,l⟩
 ·subst d
  obtain⟨z,f,t,c,i⟩:=Eh I.BS e
  refine wpAny_in_of (GL j) f i.mapOf ?_
  rw[<-(c.val k).Dr,<-l]
  exact h _ (I.tok _)
 ·subst d
  cases(show u=Value.ref b from j)
  obtain⟨z,f,x,c,i⟩:=LH I.BS e
  refine wpAny_in_heap (tupleKind_room_in1 n) (JF I.BS p) f i ?_
  have q:=(c.val k).Dr
  rw[Option.isSome_map]at q
  rw[<-q,<-l]
  exact h _ (I.tok _)
theorem Xs {Q:Value->Shared->Prop} (n:A.units+1<cLine) (I:Inv X pins σ H s) (g:Nk H a y o) (j:RelV y u) (h:∀m,Inv X pins σ H m->Q (.bool (!o.isSome)) m):
  wpAny (model X.prog X.w) A (compareOp .NotIn u (.ref a)) Q E s:=by
 rcases g with⟨kvs,k,e,d,l⟩|⟨kvs,k,b,e,d,p,l⟩
 ·subst d
  obtain⟨z,f,t,c,i⟩:=Eh I.BS e
  refine wpAny_notIn_of (GL j) f i.mapOf ?_
  rw[<-(c.val k).Dr,<-l]
  exact h _ (I.tok _)
 ·subst d
  cases(show u=Value.ref b from j)
  obtain⟨z,f,x,c,i⟩:=LH I.BS e
  refine wpAny_notIn_heap (tupleKind_room_in1 n) (JF I.BS p) f i ?_
  have q:=(c.val k).Dr
  rw[Option.isSome_map]at q
  rw[<-q,<-l]
  exact h _ (I.tok _)
theorem Ic {h':Heap} {t':Nat} {c:HO} (I:Inv X pins σ H s) (d:eN (H a)) (f:Heap.SameBut a s.heap h') (g:∃q,h'.get? a=some q) (new:Au X.prog X.w (upd H a c) h' a c):
  Inv X pins σ (upd H a c) {s with heap:=h',toks:=t'}:=
 I.write (x:=a) (e:=a) d (.inl rfl) (fun b q h z=>(f.2 b h).trans z) g new
theorem HQ {P:Program} {w:World} {c:Hp} {h':Heap} {kvs:List (Key×V)} {vs:List (Key×Value)} (z:kvs.length<=sizeLine) (d:(a==sysModules)=false) (b:KV kvs vs) (e:h'.DictOf (An P w) a vs):
  Au P w c h' a (.dK kvs):=⟨z,d,vs,b,e⟩
theorem Su {C:Hp} {Q:Unit->Shared->Prop} (M:A.units+1<cLine) (I:Inv X pins σ H s) (g:Sr H a y v C) (D:RelV y u) (F:RelV v r) (h:∀G,Inv X pins σ C G->Q () G):
  wpAny (model X.prog X.w) A (setItem (.ref a) u r) Q E s:=by
 rcases g with⟨kvs,k,e,j,l,m⟩|⟨kvs,k,b,e,j,J,l,m⟩
 ·subst j m
  obtain⟨z,n,N,d,p⟩:=Uo I.BS e
  have t:N.length<=sizeLine:=by rw[<-d.length];exact z
  have x:(putK kvs k v).length<=sizeLine:=by have:=Ew kvs k v;lia
  refine wpAny_setItem_pairs (hsz:=t) (GL D) p fun K f B=>h _ ?_
  have O:∃q,K.get? a=some q:=let⟨q,_,_,i,_⟩:=f;⟨q,i⟩
  exact Ic I (by rw[e];exact True.intro) B O (HQ x n (d.put k F) f)
 ·subst j m
  cases(show u=Value.ref b from D)
  obtain⟨z,n,P,d,p⟩:=fg I.BS e
  have t:P.length<=sizeLine:=by rw[<-Paired.length d];exact z
  have x:(putK kvs k v).length<=sizeLine:=by have:=Ew kvs k v;lia
  refine wpAny_setItem_heap (hsz:=t) (tupleKind_room_in1 M) (JF I.BS J) p fun K f B=>h _ ?_
  obtain⟨q,R,S,i,T,U,W,_,Y⟩:=f
  refine Ic I (by rw[e];exact True.intro) B ⟨q,i⟩ ⟨x,n,_,(d.put k J F).keeps fun c Z L=>?_,q,R,S,i,T,U,W,Y⟩
  rw[AK (eK L e (fun z=>nomatch z))]
  exact L
end
section
variable{X:Cx} {pins:List (Addr×Obj)} {σ:St} {H:Hp} {s:Shared} {a:Addr} {kvs:List (Key×V)} {k:Key} {u:Value} {A:Around} {E:Value->Shared->Prop}
theorem fh {v:V} {more:List Value} {Q:Value->Shared->Prop} (I:Inv X pins σ H s) (e:H a=some (.dK kvs)) (f:RelV (kV k) u) (l:CF kvs k=some v) (j:more=[]∨∃x,more=[x])
  (h:∀c m,Inv X pins σ (upd H a (.dK (Ni kvs k))) m->RelV v c->Q c m):wpAny (model X.prog X.w) A (call (.builtin "dict.pop") (.ref a::u::more)) Q E s:=by
 obtain⟨z,r,n,b,p⟩:=Uo I.BS e
 obtain⟨c,hw,g⟩:=IK.some_of (v:=v) (o:=valueAt n k) (by rw[<-l];exact b.val k)
 have y:(keyPart u).isSome=true:=by
  cases k with
  |inl i=>obtain⟨t,q⟩:=(show∃t,u=Value.int i t from f);subst q;rfl
  |inr x=>obtain⟨t,q⟩:=(show∃t,u=Value.str x t from f);subst q;rfl
 have B:argsOk "dict.pop" ⟨.ref a::u::more,[]⟩:=by
  rcases j with q|⟨x,q⟩
  ·subst q;exact PySem.F.args_dict_pop_2 _ _
  ·subst q;exact PySem.F.args_dict_pop_3 _ _ _
 refine call_meetsIn PySem.F.slot_dict_pop p.typeIs PySem.F.entry_dict_pop B (meets_dict_pop_there (An X.prog X.w) a (GL f) more j y)
  ⟨n,c,p,by rw[<-b.length];exact z,hw,fun C d D=>h c _ ?_ g⟩
 have G:∃q,C.get? a=some q:=let⟨q,_,_,J,_⟩:=d;⟨q,J⟩
 exact Ic I (by rw[e];exact True.intro) D G (HQ (Nat.le_trans (Um kvs k) z) r (b.drop k) d)
theorem fj {Q:Value->Shared->Prop} (I:Inv X pins σ H s) (e:Rd H a (.dK kvs)) (h:∀t c,Inv X pins σ H c->Q (.int kvs.length t) c):wpAny (model X.prog X.w) A (call (.builtin "len") [.ref a]) Q E s:=by
 obtain⟨z,d,g,b,f⟩:=Eh I.BS e
 refine call_len_dict d f (by rw[<-b.length];rw[sizeLine_eq]at z;lia) ?_
 rw[<-b.length]
 exact h _ _ (I.tok _)
end
def fk (i:Expr):Prop:=∀ov a,subscripted i false ov a=operate [ov,a] (getItem ov a)
theorem Xt {prog:Program} {w:World} {A:Around} {E:Value->Shared->Prop} {s:Shared} {env:Env} {value slice:Expr} {pos:Pos} {T id:String} {Q:Value->Shared->Prop}
  (hl:typeLookup (.type T) "__getitem__"=pure (some (.builtin id))) (j:fk slice)
  (h:wpAny (model prog w) A (eval value env) (fun o c=>wpAny (model prog w) A (eval slice env) (fun i a=>a.TypeIs o T/\wpAny (model prog w) A (getItem o i) Q E a) E c) E s):
  wpAny (model prog w) A (eval (.Subscript value slice pos) env) Q E s:=by
 refine Subscript_ (wpAny_mono h (fun o c e=>wpAny_mono e (fun i a b=>?_) fun _ _ x=>x) fun _ _ x=>x)
 obtain⟨g,b⟩:=b
 unfold subscriptTail
 refine wpAny_bind ?_
 rw[getitemInPython_of_ne g.not_modules]
 refine wpAny_bind (wpAny_specialOf g hl ?_)
 have fin:wpAny (model prog w) A (subscripted slice false o i) (fun r d=>wpAny (model prog w) A (letTemporaryGo value o r>>=fun _=>pure r) Q E d) E a:=by
  rw[j o i]
  exact wpAny_operating (wpAny_mono b (fun r d f=>wpAny_bind (wpAny_letTemporaryGo (wpAny_pure f))) fun _ _ x=>x)
 first
  |exact wpAny_pure (wpAny_bind fin)
  |exact wpAny_bind (wpAny_pure (wpAny_bind fin))
  |exact wpAny_bind fin
theorem Nl {X:Cx} {pins:List (Addr×Obj)} {σ:St} {H:Hp} {s:Shared} {a:Addr} {y:V} {o:Option V} (I:Inv X pins σ H s) (g:Nk H a y o):s.TypeIs (.ref a) "dict":=by
 rcases g with⟨kvs,k,e,_,_⟩|⟨kvs,k,b,e,_,_,_⟩
 ·obtain⟨_,_,d,_,c⟩:=Eh I.BS e
  exact c.typeIs
 ·obtain⟨_,_,f,_,c⟩:=LH I.BS e
  exact c.typeIs
inductive vU (x y:V) (H:Hp) (Q:VK):Prop
 |mk (a:Addr) (v:V) (e:x=.ref a) (g:Nk H a y (some v)) (q:Q v H):vU x y H Q
inductive vV (x y:V) (H:Hp) (Q:VK):Prop
 |mk (a:Addr) (o:Option V) (e:x=.ref a) (g:Nk H a y o) (q:Q (.bl o.isSome) H):vV x y H Q
inductive vW (x y:V) (H:Hp) (Q:VK):Prop
 |mk (a:Addr) (o:Option V) (e:x=.ref a) (g:Nk H a y o) (q:Q (.bl (!o.isSome)) H):vW x y H Q
def fm (b ty:TE):TE:=fun a H Q=>b a H fun x c=>ty a c fun y d=>vU x y d Q
def lU (ty b:TE):TE:=fun a H Q=>ty a H fun y c=>b a c fun x d=>vV x y d Q
def Xu (ty b:TE):TE:=fun a H Q=>ty a H fun y c=>b a c fun x d=>vW x y d Q
def fo (d ty e:TE):TS:=fun D b H=>e b H fun v f=>d b f fun x g=>ty b g fun y h=>∃a c,x=.ref a/\Sr h a y v c/\D.nx b c
section
variable{X:Cx} {o i e value:Expr} {pos pos' lH:Pos} {td ty tv:TE}
theorem Bx (f:X.A.units+1<cLine) (j:PE X o td) (k:PE X i ty) (l:fk i):PE X (.Subscript o i pos) (fm td ty):=by
 intro pins s c H Q I h
 refine Xt PySem.F.slot_dict_getitem.lookup l (BZ (j pins s c H _ I h) fun u m n=>n.elim fun x p q r t=>BZ (k pins m c p _ q t) fun E G ⟨y,w,d,z,a,v,B,g,C⟩=>?_)
 subst B
 obtain rfl:u=Value.ref a:=r
 exact⟨Nl d g,Ss f d g z fun J K D b=>⟨v,w,D,b,C⟩⟩
theorem Up (c:X.A.units+1<cLine) (d:PE X i ty) (f:PE X o td):PC X .In i o (lU ty td):=by
 intro pins s b H Q I h
 refine BZ (d pins s b H _ I h) fun B j k=>k.elim fun y l m n p=>BZ (f pins j b l _ m p) fun u C ⟨x,q,r,t,a,ov,v,g,w⟩=>?_
 subst v
 obtain rfl:u=Value.ref a:=t
 exact lR c r g n fun D z=>⟨.bl ov.isSome,q,z,rfl,w⟩
theorem LI (c:X.A.units+1<cLine) (d:PE X i ty) (f:PE X o td):PC X .NotIn i o (Xu ty td):=by
 intro pins s b H Q I h
 refine BZ (d pins s b H _ I h) fun B j k=>k.elim fun y l m n p=>BZ (f pins j b l _ m p) fun u C ⟨x,q,r,t,a,ov,v,g,w⟩=>?_
 subst v
 obtain rfl:u=Value.ref a:=t
 exact Xs c r g n fun D z=>⟨.bl (!ov.isSome),q,z,rfl,w⟩
theorem Ie (d:X.A.units+1<cLine) (f:PE X o td) (j:PE X i ty) (k:PE X value tv) (l:swapsWith value (some (.Subscript o i pos')) pos.line X.env=pure false):
  PS X (.Assign [.Subscript o i pos'] value pos) (fo td ty tv):=by
 intro pins s b H D I h
 refine wpAny_Assign_Subscript (BZ (k pins s b H _ I h) fun r m c=>c.elim fun v n p q t=>BZ (f pins m b n _ p t) fun u w c=>c.elim fun x z B C E=>BZ (j pins w b z _ B E) fun N O ⟨y,P,F,G,a,J,K,g,L⟩=>?_) l
 subst K
 obtain rfl:u=Value.ref a:=C
 exact Su d F g G q fun Q M=>⟨b,J,M,L⟩
end
theorem Nm {P:Program} {w:World} {H:Hp} (h:Heap) (a:sysModules<h.objs.size):Au P w H (h.push {cls:=.type "dict",data:=.dict #[]}) h.objs.size (.dK []):=
 ⟨Nat.zero_le _,beq_eq_false_iff_ne.mpr (Ne.symm (Nat.ne_of_lt a)),[],.nil,Heap.DictOf.new h⟩
def bM:TE:=fun _ H Q=>∀p,H p=none->Q (.ref p) (upd H p (.dK []))
section
variable{X:Cx} {pos:Pos}
theorem JG:PE X (.Dict [] [] pos) bM:=fun pins s b H Q I h=>
 wpAny_Dict_empty ⟨.ref s.heap.objs.size,_,I.laid (a:=s.heap.objs.size) (o:=.dK []) (t':=s.toks) (fun _ _ q=>Heap.get?_push_of_some _ q) (Nat.le_refl _) (Nm s.heap I.big),rfl,h _ (I.BS.fresh (Nat.le_refl _))⟩
end
def QD:List (TE×TE)->St->Hp->(List (V×V)->Hp->Prop)->Prop
 |[],_,H,Q=>Q [] H
 |(tk,a)::r,σ,H,Q=>tk σ H fun x b=>a σ b fun y H2=>QD r σ H2 fun ps c=>Q ((x,y)::ps) c
abbrev VV:List (V×V)->List (Value×Value)->Prop:=Paired fun p q=>RelV p.1 q.1/\RelV p.2 q.2
def jZ (X:Cx) (pos:Pos) (keys:List (Option Expr)) (values:List Expr) (a:List (TE×TE)):Prop:=
 ∀(pins:List (Addr×Obj)) (s:Shared) (b:St) (H:Hp) (Q:List (V×V)->Hp->Prop),Inv X pins b H s->QD a b H Q->
  wpAny (model X.prog X.w) X.A (evalPairs (pairTrees keys values X.env pos)) (fun e f=>∃c d,Inv X pins b d f/\VV c e/\Q c d) X.xe s
theorem MO {X:Cx} {pos:Pos}:jZ X pos [] [] []:=fun pins s a H Q I h=>pairTrees_nil_walk ⟨[],H,I,.nil,h⟩
theorem GN {X:Cx} {pos:Pos} {k v:Expr} {ks:List (Option Expr)} {vs:List Expr} {tk d:TE} {a:List (TE×TE)} (e:PE X k tk) (f:PE X v d) (g:jZ X pos ks vs a):
  jZ X pos (some k::ks) (v::vs) ((tk,d)::a):=fun pins s b H Q I h=>
 pairTrees_cons_walk (BZ (e pins s b H _ I h) fun u i j=>j.elim fun x l m n o=>BZ (f pins i b l _ m o) fun D p ⟨y,q,r,t,w⟩=>
  BZ (g pins p b q _ r w) fun E F ⟨z,A,B,c,C⟩=>⟨(x,y)::z,A,B,.cons ⟨n,t⟩ c,C⟩)
def CG (kvs more:List (Key×V)):List (Key×V):=more.foldl (fun a b=>putK a b.1 b.2) kvs
theorem KV.merge:∀{more:List (Key×V)} {a:List (Key×Value)} {kvs:List (Key×V)} {vs:List (Key×Value)},KV more a->KV kvs vs->KV (CG kvs more) (merged vs a):=by
 intro more a kvs vs r
 unfold KV at r
 induction r generalizing kvs vs with
 |nil=>intro q;exact q
 |@cons p q d f h t b=>
  intro c
  have e:KV (putK kvs p.1 p.2) (stored vs q.1 q.2):=by
   have:=c.put p.1 h.2
   rw[<-h.1];exact this
  exact b e
theorem Cf:∀(more kvs:List (Key×V)),(CG kvs more).length<=kvs.length+more.length
 |[],kvs=>by show kvs.length<=kvs.length+0;lia
 |p::r,kvs=>by
  have a:=Cf r (putK kvs p.1 p.2)
  have b:=Ew kvs p.1 p.2
  show(CG (putK kvs p.1 p.2) r).length<=_
  rw[List.length_cons];lia
theorem JH {P:Program} {w:World}:∀{kvs:List (Key×V)} {ws:List (Value×Value)},VV (kvs.map fun e=>(kV e.1,e.2)) ws->∃d,Carries (An P w) ws d/\KV kvs d
 |[],_,r=>by rw[List.map_nil]at r;cases r;exact⟨[],True.intro,.nil⟩
 |p::kvs,_,r=>by
  rw[List.map_cons]at r
  cases r with
  |@cons a b as bs h t=>
   obtain⟨d,c,q⟩:=JH (P:=P) (w:=w) t
   obtain⟨g,f⟩:=b
   exact⟨(p.1,f)::d,⟨GL h.1,rfl,c⟩,.cons ⟨rfl,h.2⟩ q⟩
def fq (a:List (TE×TE)):TE:=fun d H Q=>∀p,H p=none->QD a d (upd H p (.dK [])) fun e b=>b p=some (.dK [])/\∃kvs:List (Key×V),e=kvs.map (fun c=>(kV c.1,c.2))/\kvs.length<=15/\Q (.ref p) (upd b p (.dK (CG [] kvs)))
theorem MP {X:Cx} {pos:Pos} {keys:List (Option Expr)} {values:List Expr} {b:List (TE×TE)} (h:jZ X pos keys values b) (d:keys.all (·.isSome)=true) (hl:keys.length=values.length) (k:keys≠[])
  (g:keys.length<=15):PE X (.Dict keys values pos) (fq b):=by
 intro pins s l H Q I q
 have m:=I.BS.fresh (Nat.le_refl s.heap.objs.size)
 have n:=I.laid (a:=s.heap.objs.size) (o:=.dK []) (h':=s.heap.push {cls:=.type "dict",data:=.dict #[]}) (t':=s.toks) (fun _ _ q=>Heap.get?_push_of_some _ q) (Nat.le_refl _) (Nm s.heap I.big)
 refine wpAny_Dict_walk (knd:=An X.prog X.w) d hl k g (BZ (h pins _ l _ _ n (q _ m)) fun G J ⟨K,L,j,i,e,kvs,p,lk,r⟩=>?_)
 subst p
 obtain⟨t,c,u⟩:=JH (P:=X.prog) (w:=X.w) i
 obtain⟨z,v,x,y,A⟩:=Uo j.BS e
 cases y
 refine⟨t,c,A,fun h' f B=>⟨.ref s.heap.objs.size,_,?_,rfl,r⟩⟩
 have C:(CG [] kvs).length<=sizeLine:=by
  have D:=Cf kvs []
  rw[List.length_nil]at D
  rw[sizeLine_eq];lia
 have E:∃q,h'.get? s.heap.objs.size=some q:=let⟨q,_,_,F,_⟩:=f;⟨q,F⟩
 exact Ic j (by rw[e];exact True.intro) B E (HQ C v (u.merge .nil) f)
structure M1 (X:Cx) (o:Expr) (m:Str) (apos:Pos) (e:Expr) (DR:Pos):Prop where
 base:attributeBase o m X.env (eval o X.env)=eval o X.env
 RQ:((backTo DR (starEach [e] X.env)).all (fun x=> !x.1)&&(backToKw DR (keywordEach [] X.env)).all (fun x=>x.1.isSome)
  &&decide (([e]:List Expr).length+([]:List Keyword).length+(if([]:List Keyword).isEmpty then 0 else 1)<30))=true
 line:(apos.endLine==DR.line)=true
 trees:backTo DR (starEach [e] X.env)=[(false,eval e X.env)]
structure M2 (X:Cx) (o:Expr) (m:Str) (apos:Pos) (e f:Expr) (DR:Pos):Prop where
 base:attributeBase o m X.env (eval o X.env)=eval o X.env
 RQ:((backTo DR (starEach [e,f] X.env)).all (fun x=> !x.1)&&(backToKw DR (keywordEach [] X.env)).all (fun x=>x.1.isSome)
  &&decide (([e,f]:List Expr).length+([]:List Keyword).length+(if([]:List Keyword).isEmpty then 0 else 1)<30))=true
 line:(apos.endLine==DR.line)=true
 trees:backTo DR (starEach [e,f] X.env)=[(false,eval e X.env),(false,eval f X.env)]
def vX (H:Hp) (a:Addr):Prop:=(∃kvs,Rd H a (.dK kvs))∨∃kvs,Rd H a (.dT kvs)
theorem bN {X:Cx} {pins:List (Addr×Obj)} {σ:St} {H:Hp} {s:Shared} {a:Addr} (I:Inv X pins σ H s) (d:vX H a):
  s.TypeIs (.ref a) "dict"/\(∀b,Value.ref a=.ref b->∃c,s.heap.get? b=some c/\c.dict=none)/\(a==sysModules)=false:=by
 rcases d with⟨kvs,e⟩|⟨kvs,e⟩
 ·obtain⟨_,g,j,_,f⟩:=Eh I.BS e
  refine⟨f.typeIs,fun b q=>?_,g⟩
  cases q
  obtain⟨c,_,_,h,i,_⟩:=f
  exact⟨c,h,i.2.1⟩
 ·obtain⟨_,g,k,_,f⟩:=LH I.BS e
  refine⟨f.typeIs,fun b q=>?_,g⟩
  cases q
  obtain⟨c,_,_,h,i,_⟩:=f
  exact⟨c,h,i.2.1⟩
section
variable{X:Cx} {pins:List (Addr×Obj)} {σ:St} {H:Hp} {s:Shared} {a:Addr} {y d:V} {u r:Value} {o:Option V} {A:Around} {E:Value->Shared->Prop}
end
def bO (e ty:TE):TE:=fun b H Q=>e b H fun x c=>∃a,x=.ref a/\vX c a/\ty b c fun y d=>∃kvs k v,d a=some (.dK kvs)/\y=kV k/\CF kvs k=some v/\Q v (upd d a (.dK (Ni kvs k)))
section
variable{X:Cx} {o e f:Expr} {apos DR:Pos} {td ty tx:TE}
theorem Nn (i:PE X o td) (j:PE X e ty) (m:M1 X o "pop" apos e DR):PE X (.Call (.Attribute o "pop" apos) [e] [] DR) (bO td ty):=by
 intro pins s c H Q I h
 refine wpAny_Call_method m.base m.RQ m.line PySem.F.plainAttrs_dict PySem.F.slot_dict_pop PySem.F.type_dict_pop (BZ (i pins s c H _ I h) fun u n ⟨x,p,g,q,a,r,d,t⟩=>?_)
 subst r
 obtain rfl:u=Value.ref a:=q
 obtain⟨w,z,_⟩:=bN g d
 refine⟨w,z,?_⟩
 rw[m.trees]
 refine Calls.callWith_builtin rfl (Calls.evalArgs_plain (Calls.spliced_cons (BZ (j pins n c p _ g t) fun J K ⟨y,L,A,B,kvs,k,v,C,D,l,E⟩=>Calls.spliced_nil ?_)))
 subst D
 exact fh A C B l (.inl rfl) fun M N G b=>⟨v,_,G,b,E⟩
end
section
variable{X:Cx} {pins:List (Addr×Obj)} {σ:St} {H:Hp} {s:Shared} {a:Addr} {kvs:List (Key×V)} {A:Around} {E:Value->Shared->Prop}
theorem Uq {Q:Value->Shared->Prop} (I:Inv X pins σ H s) (e:Rd H a (.dK kvs)) (h:∀p f,H p=none->Inv X pins σ (upd H p (.dK kvs)) f->Q (.ref p) f):wpAny (model X.prog X.w) A (call (.type "dict") [.ref a]) Q E s:=by
 obtain⟨z,i,l,c,j⟩:=Eh I.BS e
 refine kt_call_dict i j (by rw[<-c.length];exact z) fun m d k=>?_
 refine h _ _ (I.BS.fresh (Nat.le_refl _)) (I.laid (a:=s.heap.objs.size) (o:=.dK kvs) (t':=s.toks) (fun b q g=>?_) (Nat.le_refl _) (HQ z (beq_eq_false_iff_ne.mpr (Ne.symm (Nat.ne_of_lt I.big))) c d))
 exact(k.2 b (Nat.ne_of_lt (Heap.lt_size g))).trans (Heap.get?_push_of_some _ g)
end
section
variable{X:Cx} {pins:List (Addr×Obj)} {σ:St} {H:Hp} {s:Shared} {a:Addr} {y:V} {u:Value} {A:Around} {E:Value->Shared->Prop}
end
end L2
namespace vY
open PySem PySem.W PySem.Calls PyProof.Rows
theorem IU {P:Params} {h:Heap}:∀(c:List Int) (vs:List Value),WellAll P h vs (c.map WData.int)->IntsAre vs c:=by
 intro c
 induction c with
 |nil=>
  intro vs w
  rw[List.map_nil]at w
  cases w
  exact .nil
 |cons n c d=>
  intro vs w
  rw[List.map_cons]at w
  cases w with
  |cons a b=>
   cases a
   exact .cons _ _ (d _ b)
theorem Sv {l:OpenLaw} {n:Nat} (m:l.most=some n) {P:Params} {h:Heap} {args:List WData} {vals:List Value}
  (c:l.row.toRowW.claim.pre args=true) (i:WellAll P h vals args):
  ∃a vs b,vals=[Value.ref a]/\args=[WData.list (b.map WData.int)]/\h.get? a=some {cls:=.type "list",data:=.seq vs.toArray}/\IntsAre vs b/\b.length<=n:=by
 have j:WShape.hasAll [] args [.list .int]=true:=(pre_splitW c).1
 have k:l.pre.holds [] {args:=args}=true:=(pre_splitW c).2
 obtain⟨d,r,rfl,o,p⟩:=hasAllW_cons j
 obtain rfl:=hasAllW_nil p
 obtain⟨x,rfl,s⟩:=hasW_list o
 obtain⟨b,rfl⟩:=items_int s
 have hlen:b.length<=n:=by
  unfold OpenLaw.pre at k
  have f:(WTm.not (.lt (.lit (.int (n:Int))) (.len (.arg 0)))).holds [] {args:=[.list (b.map .int)]}=true:=by
   have f:=(holds_andW k).1
   rw[m]at f
   exact f
  have g:=condW_of f (w_not (w_lt w_lit (w_len_list (w_arg rfl))))
  rw[List.length_map]at g
  refine Nat.le_of_not_lt fun q=>?_
  have t:(n:Int)<((b.length:Nat):Int):=by lia
  first
   |(rw[decide_eq_true t]at g;exact absurd g (by decide))
   |(simp at g;lia)
 cases i with
 |cons u v=>
  cases v
  cases u with
  |list w e=>exact⟨_,_,b,rfl,rfl,w,IU b _ e,hlen⟩
theorem Sw (l:OpenLaw) (args:List WData):l.row.toRowW.claim.post args (.bool true) args=true:=
 postW_of (r:=l.row.toRowW) (X:=(true==true))
  (show WShape.has [] (.bool true) .bool=true by first|rfl|decide|simp[WShape.has,WShape.arms,WShape.armsAll])
  (show(WTm.eq .res (.lit (.bool true))).value [] {args:=args,res:=some (.bool true),after:=args}=some (.bool (true==true))from w_eq_bool (w_res rfl) w_lit) rfl
theorem Np {l:OpenLaw} {n:Nat} {q:Program} {loose:List Str} {v:(Str->Option Value)->Heap->Prop} {YP:World->Heap->Prop} {d:DefRec}
  (z:l.most=some n) (k:d.params.defaults=[])
  (call:∀(w:World) (s₀ b:Shared) (mg m:Str->Option Value) (c:Addr) (o:Obj) (p h doc:Value) (a:Addr) (vs:List Value) (i:List Int),
   Ground q loose [] v w s₀ mg m b.heap->YP w b.heap->
   b.heap.get? c=some o->o.data=.func (docDef d.name d.params d.body d.scope p h doc)->b.heap.CodeRec h d.name->mg d.name=some (.ref c)->
   b.heap.get? a=some {cls:=.type "list",data:=.seq vs.toArray}->IntsAre vs i->i.length<=n->b.gens= #[]->
   codeAny (model l.prog w) callerA (.call (.ref c) ⟨[.ref a],[]⟩) (fun r j=>r=.ok (.ret (.bool true))/\OldK b.heap j.heap/\j.os=b.os/\AllBare j.gens) b):
  WalkO q loose v YP l.row.toRowW d [] (fun f vs=>PySem.call f vs):=by
 intro w s₀ b mg m G Y c o p h doc A kV B C s x t D args vals M e y E u F
 obtain rfl:A=.none:=Dflts.none x k
 obtain rfl:kV=.none:=Dflts.noKw x
 obtain⟨a,vs,i,rfl,rfl,g,hints,hlen⟩:=Sv z e u
 refine enter_call (codeAny_mono (call w s₀ b mg m c o p h doc a vs i G Y B (fd_plain C) s t g hints hlen D) fun r j H=>?_)
 obtain⟨rfl,I,J,K⟩:=H
 exact⟨.inl ⟨.bool true,.bool true,[],rfl,fun _=>rfl,.bool true,Sw l _,fun _=>⟨List.Pairwise.nil,fun _ L=>(nomatch L)⟩⟩,I,J,K⟩
section
variable{prog:Program} {w:World} {A:Around} {E:Value->Shared->Prop} {s:Shared} {K:Frag}
end
end vY
namespace L2
open PySem PySem.Spec PyProof.Rows
theorem Sx {vs:List Value} {a:List Int} (h:IntsAre vs a):Vals (a.map V.int) vs:=by
 induction h with
 |nil=>exact .nil
 |cons n t _ b=>exact .cons ⟨t,rfl⟩ b
def bP (H:Hp):Prop:=∀b,H b=none∨∃o a,H b=some (.CK o (.lst a))
theorem Ur {P:Program} {w:World} {K:ADv} {mg L:Str->Option Value} {CX:Sk} {k:Nat} {M a:Addr} {U:FuncData} {x:Str} {sp:Sp} {c:Shared} {vs:List Value} {p:List Int}
  (X:K.In c.heap) (t:c.heap.Ns mainGlobals mg) (g:c.heap.Ns builtinsNs L) (N:∀x:Str,x≠"__name__"->L x=bootBuiltins x) (y:c.heap.NoLimit) (hg:c.gens= #[])
  (J:c.heap.get? a=some {cls:=.type "list",data:=.seq vs.toArray}) (Y:IntsAre vs p) (Z:p.length<=sizeLine) (hr:Al k callerA)
  (F:∀base:Heap,K.In base->base.Ns mainGlobals mg->BG P w K mg base CX k M U [x] sp) (l:∀(s:Shared) (u:Value),BindsTo s U ⟨[u],[]⟩ [(x,u)])
  (O:∀H:Hp,bP H->Ap K H a (p.map V.int)->sp [.ref a] H (fun v _=>v=.bl true) fun _ _ _=>False)
  (Q:∀H e i,CX [] H c (fun _ _ _=>False) e i->False):
  codeAny (model P w) callerA (.call (.ref M) ⟨[.ref a],[]⟩) (fun r i=>r=.ok (.ret (.bool true))/\OldK c.heap i.heap/\i.os=c.os/\AllBare i.gens) c:=by
 have rv:=Sx Y
 have A:=Y.length
 have core:∀H:Hp,bP H->Ap K H a (p.map V.int)->Fj P w H c.heap->(∀b,H b≠none->b=a)->(H a≠none->K.lookup a=none)->
   codeAny (model P w) callerA (.call (.ref M) ⟨[.ref a],[]⟩) (fun r i=>r=.ok (.ret (.bool true))/\OldK c.heap i.heap/\i.os=c.os/\AllBare i.gens) c:=by
  intro H hO hS B hA hK
  have f:∀{b:Addr} {o:Obj},c.heap.get? b=some o->H b=none->(MB c.heap H).get? b=some o:=fun e n=>UI e n
  have R:∀{b:Addr} {o:Obj} {C:Array DictEntry} {D:Nat},c.heap.get? b=some o->o.data=.dict C D->H b=none:=fun{b o C D} e d=>by
   cases q:H b with
   |none=>rfl
   |some u=>
    have S:b=a:=hA b (by rw[q];simp)
    subst S
    rw[J]at e;cases e
    have d':Data.seq vs.toArray _=Data.dict C D:=d
    cases d'
  have j:∀{b:Addr} {m:Str->Option Value},c.heap.Ns b m->(MB c.heap H).Ns b m:=fun{b m} ⟨o,C,D,e,d,r⟩=>⟨o,C,D,f e (R e d),d,r⟩
  have E:K.In (MB c.heap H):=fun b o e=>f (X b o e) (by
   cases q:H b with
   |none=>rfl
   |some u=>
    have S:b=a:=hA b (by rw[q];simp)
    subst S
    rw[hK (by rw[q];simp)]at e;cases e)
  have hM:Mod K mg (MB c.heap H):=⟨E,j t,⟨L,j g,N⟩,let⟨mc,h1,h2⟩:=y;⟨mc,j h1,h2⟩⟩
  have e0:Xi P w K mg (MB c.heap H) callerA [] c H:=⟨rfl,hM,fun b o e=>Xb e,Nat.le_of_eq (Sb _ _),trivial,fun b g=>absurd (show b∈([]:List Addr)from g) (by simp),B,.of_eq hg⟩
  refine codeAny_mono ((F _ E (j t)).run callerA [] c H ⟨[.ref a],[]⟩ [.ref a] [.ref a] _ _ hr e0 (l c (.ref a)) (.cons rfl .nil) (O H hO hS)) fun r i h=>?_
  cases r with
  |error e=>exact(Q H e i h).elim
  |ok fl=>
   cases fl with
   |next=>exact False.elim h
   |brk=>exact False.elim h
   |cont=>exact False.elim h
   |ret u=>
    obtain⟨v,H',os,bare,un,G,r',q⟩:=h
    have q':v=.bl true:=q
    subst q'
    obtain rfl:u=Value.bool true:=r'
    refine⟨rfl,OldK.of_keep fun b o e=>?_,os,bare⟩
    cases q:H b with
    |none=>exact un.keep b o e q (by intro z;exact absurd (show b∈([]:List Addr)from z) (by simp)) (by simp)
    |some u=>
     rcases hO b with z|⟨ob,xs,z⟩
     ·rw[q]at z;cases z
     ·have z2:=un.Gy b ob _ z
      obtain⟨e1,_⟩:=B b _ z
      obtain⟨e2,_⟩:=G b _ z2
      rw[e]at e1;cases e1
      exact e2
 cases T:K.lookup a with
 |some o=>
  have e:=X a o T
  rw[J]at e
  cases e
  refine core (fun _=>none) (fun _=>.inl rfl) (.inr ⟨_,vs.toArray,_,T,rfl,rfl,rfl,by rw[List.size_toArray,A];exact Z,by simpa using rv⟩) (fun b u z=>by have I:(none:Option HO)=some u:=z;cases I) (fun b z=>absurd rfl z) fun z=>absurd rfl z
 |none=>
  refine core (fun b=>if b=a then some (.CK {cls:=.type "list",data:=.seq vs.toArray} (.lst (p.map V.int)))else none) (fun b=>?_) (.inl (.inr ⟨{cls:=.type "list",data:=.seq vs.toArray},if_pos rfl⟩)) (fun b u z=>?_) (fun b z=>?_) fun _=>T
  ·by_cases g:b=a
   ·exact .inr ⟨_,_,if_pos g⟩
   ·exact .inl (if_neg g)
  ·by_cases g:b=a
   ·have I:=(if_pos g).symm.trans z
    cases I
    subst g
    exact⟨J,by rw[List.length_map];exact Z,vs,_,rv,J⟩
   ·have I:=(if_neg g).symm.trans z
    cases I
  ·by_cases g:b=a
   ·exact g
   ·exact absurd (if_neg g) z
theorem Xv {l:PySem.W.OpenLaw} {n k:Nat} {q:Program} {loose:List Str} {E:(Str->Option Value)->Heap->Prop} {YP:World->Heap->Prop} {d:DefRec} {K:Params->ADv} {CX:World->Sk} {sp:World->Sp} {x:Str}
  (I:l.most=some n) (p:n<=sizeLine) (r:d.params.defaults=[]) (J:Al k callerA)
  (L:∀(w:World) (h:Heap),YP w h->(K w.params).In h)
  (F:∀(w:World) (mg:Str->Option Value) (j:Addr) (h:Heap),(K w.params).In h->h.Ns mainGlobals mg->mg d.name=some (.ref j)->
   ∃t:FuncData,(∀(s:Shared) (u:Value),BindsTo s t ⟨[u],[]⟩ [(x,u)])/\
    ∀base:Heap,(K w.params).In base->base.Ns mainGlobals mg->BG l.prog w (K w.params) mg base (CX w) k j t [x] (sp w))
  (y:∀(w:World) (H:Hp) (a:Addr) (m:List Int),m.length<=n->bP H->Ap (K w.params) H a (m.map V.int)->sp w [.ref a] H (fun v _=>v=.bl true) fun _ _ _=>False)
  (z:∀(w:World) (H:Hp) (s:Shared) (e:Value) (A:Shared),CX w [] H s (fun _ _ _=>False) e A->False):
  PySem.W.WalkO q loose E YP l.row.toRowW d [] (fun f vs=>PySem.call f vs):=by
 refine vY.Np I r fun w C c mg S j o U X doc a vs m G Y Z hd M B i hints hlen N=>?_
 have D:=L w _ Y
 obtain⟨t,O,P⟩:=F w mg j _ D G.T.g B
 exact Ur D G.T.g G.T.b G.T.builtins G.T.nolimit N i hints (Nat.le_trans hlen p) J P O (fun H Q R=>y w H a m hlen Q R) fun H e A=>z w H c e A
def Af (s:Stmt):Arguments:=match s with
 | .FunctionDef _ a _ _ _ _ _ _ _ _=>a
 |_=>{posonlyargs:=[],args:=[],vararg:=none,kwonlyargs:=[],kw_defaults:=[],kwarg:=none,defaults:=[]}
def Ae (s:Stmt):List Stmt:=match s with
 | .FunctionDef _ _ b _ _ _ _ _ _ _=>b
 |_=>[]
def AI (s:Stmt):Scope:=match s with
 | .FunctionDef _ _ _ _ _ _ a _ _ _=>a
 |_=>{kind:=.function,names:=[],isGenerator:=false,isCoroutine:=false}
abbrev CW:Sk:=fun _ _ _ _ _ _=>False
abbrev E0:XK:=fun _ _ _=>False
theorem AX {X:Cx}:Passes CW X E0:=fun _ _ _ _ _ _ _ h=>h.elim
structure Ct (K:ADv) (x qual:Str) (st:Stmt) (f:Addr) (fd:FuncData):Prop where
 ex:∃(oc:Value) (od:Option Addr) (kV doc pm:Value) (an:Option Addr) (IV ct:Value) (yS:Array (Option Value)),
  fd=PySem.W.fnOf x qual (Af st) (Ae st) (AI st) .none kV doc pm an IV ct/\K.lookup f=some ⟨oc,od,.func fd,yS⟩/\PySem.W.codeIn K IV qual=true
 kp:PySem.W.keepIn K (.ref f)=true
section
variable{P:Program} {w:World} {K:ADv} {mg:Str->Option Value} {base:Heap}
theorem Ct.ok {x qual:Str} {st:Stmt} {f:Addr} {e:FuncData} {N ps:List Str} {k:Nat} {sp:Sp} (F:Ct K x qual st f e) (S:Ah N ps (AI st)) (len:∀vs H Q E,sp vs H Q E->vs.length=ps.length)
  (b:∀(a:Value) (A:Around) (outer:List Env) (s:Shared) (H:Hp) (vs:List V) (Q:VK) (E:XK),Al k (A.deeper (envOfC qual (AI st) s.heap.objs.size f a))->sp vs H Q E->
   ∃t,Sd (Sl CW P w K mg base N qual (AI st) f a A outer s H E).jS (Ae st) t/\t {nx:=fun _ g=>Q .BO g,rt:=Q} (start N vs) H):BG P w K mg base CW (k+1) f e ps sp:=by
 obtain⟨l,m,kV,doc,n,o,a,p,i,rfl,lk,c⟩:=F.ex
 refine fQ lk c S len fun A outer s H vs Q E j d=>?_
 obtain⟨t,h,q⟩:=b a A outer s H vs Q E j d
 exact⟨t,h.jS,q⟩
theorem Ct.binds {x qual:Str} {st:Stmt} {f:Addr} {d:FuncData} {ps:List Str} (F:Ct K x qual st f d)
  (h:∀(kV doc b:Value) (c:Option Addr) (a ct:Value) (us:List Value),us.length=ps.length->bindArgs (PySem.W.fnOf x qual (Af st) (Ae st) (AI st) .none kV doc b c a ct) ⟨us,[]⟩=pure (ps.zip us)):Binds K d ps []:=by
 obtain⟨i,j,kV,doc,b,c,a,ct,e,rfl,lk,g⟩:=F.ex
 exact .all (h kV doc b c a ct)
theorem A' {x qual:Str} {st:Stmt} {f:Addr} {g:Value} {h d:Option Addr} {b:Array (Option Value)} {kV doc e a ct:Value} (l:K.lookup f=some ⟨g,h,.func (PySem.W.fnOf x qual (Af st) (Ae st) (AI st) .none kV doc e d a ct),b⟩)
  (c:PySem.W.codeIn K a qual=true) (k:PySem.W.keepIn K (.ref f)=true):Ct K x qual st f (PySem.W.fnOf x qual (Af st) (Ae st) (AI st) .none kV doc e d a ct):=⟨⟨g,h,kV,doc,e,d,a,ct,b,rfl,l,c⟩,k⟩
end
theorem BU {A:Around} {k:Nat} (a:Al k A):A.units+1<cLine:=Nat.lt_of_le_of_lt (Nat.add_le_add_left (by decide:1<=64) _) a.units
theorem BV {n:Nat} (h:n<=1000):n<sizeLine:=Nat.lt_of_le_of_lt h (by decide)
section
variable{X:Cx}
theorem pv (i:Nat) {x:Str} {pos:Pos} (b:X.N[i]?=some x:=by rfl) (c:kW X.env.scope x:=by first|exact Or.inl rfl|exact Or.inr (Or.inl rfl)|exact Or.inr (Or.inr rfl)) (d:(x==("__debug__":Str))=false:=by decide)
  (a:(x==("__classdict__":Str))=false:=by decide):PE X (.Name x pos) (Pm i):=aq b c d a
inductive MQ (xs:List V) (H:Hp) (Q:VK):Prop
 |mk (a:_) (kvs:_) (b:xs=[V.ref a]) (c:H a=some (.dK kvs)) (d:Q (.int kvs.length) H):MQ xs H Q
end
theorem BJ {A B:Prop} (h:B):if false=true then A else B:=by
 rw[if_neg Bool.false_ne_true]
 exact h
theorem Bs {A B:Prop} (h:A):if true=true then A else B:=by
 rw[if_pos rfl]
 exact h
theorem Us {c A B:Prop} [Decidable c] (a:c->A) (b:¬c->B):if c then A else B:=by
 by_cases h:c
 ·rw[if_pos h]
  exact a h
 ·rw[if_neg h]
  exact b h
def AG (H a:Hp):Prop:=∀b o,H b=some o->a b=some o
theorem AG.refl (H:Hp):AG H H:=fun _ _ h=>h
theorem AG.trans {H d H2:Hp} (a:AG H d) (b:AG d H2):AG H H2:=fun c o h=>b c o (a c o h)
theorem AG.free {H a:Hp} (e:AG H a) {l:Addr} (h:a l=Option.none):H l=Option.none:=by
 cases q:H l with
 |none=>rfl
 |some o=>
  rw[e l o q]at h
  cases h
theorem AG.seq {K:ADv} {H b:Hp} {a:Addr} {xs:List V} (e:AG H b) (h:Ap K H a xs):Ap K b a xs:=by
 rcases h with(h|⟨o,h⟩)|h
 ·exact .inl (.inl (e _ _ h))
 ·exact .inl (.inr ⟨o,e _ _ h⟩)
 ·exact .inr h
section
variable{κ:Type} [DecidableEq κ]
theorem Ut {kvs:List (κ×V)} {k:κ} (h:CF kvs k=none):¬k∈kvs.map (·.1):=by
 intro m
 obtain⟨p,a,e⟩:=List.mem_map.mp m
 have q:(kvs.any fun b=>decide (b.1=k))=true:=List.any_eq_true.mpr ⟨p,a,decide_eq_true e⟩
 rw[DG,h]at q
 exact absurd q (by simp)
theorem RS {kvs:List (κ×V)} {k:κ} {v:V} (h:CF kvs k=some v):k∈kvs.map (·.1):=by
 have q:(kvs.any fun a=>decide (a.1=k))=true:=by
  rw[DG,h]
  all_goals rfl
 obtain⟨p,b,e⟩:=List.any_eq_true.mp q
 exact List.mem_map.mpr ⟨p,b,of_decide_eq_true e⟩
end
theorem QE {prog:Program} {w:World} {A:Around} {R:Result->Shared->Prop} {a f iter:Expr} {d:List Expr} {scope:Scope} {pos:Pos} {g b:Value} {env:Env} (e:Nat->Shared->Prop)
  (step:∀n s,e n s->wpAny (model prog w) A (pyNext g) (fun r p=>match r with
   |none=>R (.ok .next) p
   |some v=>wpAny (model prog w) A (letOwnedTupleGo f g v) (fun _ u=>wpAny (model prog w) A (assign f env v) (fun _ B=>
     wpAny (model prog w) A (forIn d true fun c r=>if r=true then do let ok<-isTrue c env (eval c env);pure (ForInStep.yield ok)else pure (ForInStep.yield r)) (fun ok i=>
      if ok=true then wpAny (model prog w) A (eval a env) (fun y j=>wpAny (model prog w) A (call (.builtin "list.append") [b,y]) (fun _ l=>∃m,m<n/\e m l) (fun _ _=>False) j) (fun _ _=>False) i
      else∃m,m<n/\e m i) (fun _ _=>False) B) (fun _ _=>False) u) (fun _ _=>False) p) (fun _ _=>False) s)
  (n:Nat) {s:Shared} (h:e n s):codeAny (model prog w) A (.compLoop (.ListComp a [⟨f,iter,d,0⟩] scope pos) 0 g b env) R s:=by
 have up:∀{C:Type} {t:Sem C} {Q:C->Shared->Prop} {E:Value->Shared->Prop} {s:Shared},wpAny (model prog w) A t Q (fun _ _=>False) s->wpAny (model prog w) A t Q E s:=
  fun h=>wpAny_mono h (fun _ _ q=>q) fun _ _ z=>z.elim
 refine codeAny_loop rfl e (fun k s F=>?_) n h
 show wpAny _ A ((compTurn (.ListComp a [⟨f,iter,d,0⟩] scope pos) 0 g b env).onRaise (fun x=>do noteFrame x env;theTreesLotGoes x)) _ _ s
 refine wpAny_noted ?_
 rw[compTurn_list]
 refine wpAny_bind (wpAny_standAt (wpAny_bind (wpAny_mono (up (step k s F)) (fun r p D=>?_) fun _ _ z=>z)))
 cases r with
 |none=>exact wpAny_pure D
 |some v=>
  refine wpAny_bind (wpAny_mono (up D) (fun _ u G=>?_) fun _ _ z=>z)
  refine wpAny_bind (wpAny_mono (up G) (fun _ B H=>?_) fun _ _ z=>z)
  refine wpAny_bind (wpAny_mono (up H) (fun ok i o=>?_) fun _ _ z=>z)
  cases ok with
  |false=>exact wpAny_pure ⟨rfl,o⟩
  |true=>
   have o:wpAny (model prog w) A (eval a env) (fun y j=>wpAny (model prog w) A (call (.builtin "list.append") [b,y]) (fun _ l=>∃m,m<k/\e m l) (fun _ _=>False) j) (fun _ _=>False) i:=o
   exact wpAny_bind (wpAny_bind (wpAny_mono (up o) (fun y j I=>wpAny_bind (wpAny_mono (up I) (fun _ l J=>wpAny_pure (wpAny_pure ⟨rfl,J⟩)) fun _ _ z=>z)) fun _ _ z=>z))
def Ds (cells:List (Str×Addr)):List (Str×NameKind)->List (Str×Addr)->List (Str×Addr)
 |[],a=>a
 |(n,k)::r,a=>if k==.free then Ds cells r ((n,(cells.lookup n).getD 0)::a)else Ds cells r a
theorem EM {cells:List (Str×Addr)} {x:Str} {c:Addr}:∀(names:List (Str×NameKind)) (a:List (Str×Addr)),(∀p∈names,p.2=.free->∃c,cells.lookup p.1=some c)->
  (∀y d,a.lookup y=some d->cells.lookup y=some d)->(Ds cells names a).lookup x=some c->cells.lookup x=some c
 |[],a,_,g,h=>g x c h
 |(n,k)::r,a,i,g,h=>by
  unfold Ds at h
  by_cases j:(k==NameKind.free)=true
  ·rw[if_pos j]at h
   have o:k=.free:=by simpa using j
   obtain⟨d,q⟩:=i (n,k) List.mem_cons_self o
   refine EM r _ (fun p l=>i p (List.mem_cons_of_mem _ l)) (fun y e f=>?_) h
   rw[List.lookup_cons]at f
   cases b:y==n with
   |true=>
    rw[b]at f
    have:y=n:=by simpa using b
    subst this
    have m:List.lookup y cells=some d:=q
    rw[m]at f⊢
    exact f
   |false=>
    rw[b]at f
    exact g y e f
  ·rw[if_neg j]at h
   exact EM r a (fun p l=>i p (List.mem_cons_of_mem _ l)) g h
theorem FL {cells:List (Str×Addr)} {x:Str}:∀(names:List (Str×NameKind)) (a:List (Str×Addr)),((a.lookup x).isSome=true∨(x,NameKind.free)∈names)->((Ds cells names a).lookup x).isSome=true
 |[],a,h=>h.elim (fun z=>z) fun z=>nomatch z
 |(n,k)::r,a,h=>by
  unfold Ds
  by_cases b:(k==NameKind.free)=true
  ·rw[if_pos b]
   refine FL r _ ?_
   rcases h with h|h
   ·refine .inl ?_
    rw[List.lookup_cons]
    cases x==n<;>simp[h]
   ·rcases List.mem_cons.mp h with e|e
    ·refine .inl ?_
     have:x=n:=congrArg Prod.fst e
     subst this
     rw[List.lookup_cons]
     simp
    ·exact .inr e
  ·rw[if_neg b]
   refine FL r _ ?_
   rcases h with h|h
   ·exact .inl h
   ·rcases List.mem_cons.mp h with e|e
    ·have:NameKind.free=k:=congrArg Prod.snd e
     subst this
     exact absurd rfl b
    ·exact .inr e
theorem Dt {scope:Scope} {env:Env} (h:∀p∈scope.names,p.2=.free->∃c,env.cells.lookup p.1=some c):closureFor scope env=pure (Ds env.cells scope.names []):=by
 have go:∀(names:List (Str×NameKind)) (b:List (Str×Addr)),(∀p∈names,p.2=.free->∃c,env.cells.lookup p.1=some c)->
   (forIn names b (fun(x:Str×NameKind) r=>if(x.2==NameKind.free)=true then do let a<-cellOf env x.1;pure (ForInStep.yield ((x.1,a)::r))else pure (ForInStep.yield r)):Sem (List (Str×Addr)))=pure (Ds env.cells names b):=by
  intro names
  induction names with
  |nil=>intro b _;rfl
  |cons p r j=>
   intro b f
   obtain⟨n,k⟩:=p
   rw[List.forIn_cons]
   unfold Ds
   by_cases g:(k==NameKind.free)=true
   ·have l:k=.free:=by simpa using g
    obtain⟨c,d⟩:=f (n,k) List.mem_cons_self l
    have d:List.lookup n env.cells=some c:=d
    have e:cellOf env n=pure c:=by unfold cellOf;rw[d]
    simp only[g,if_true,e,d,Option.getD_some]
    exact j _ fun p i=>f p (List.mem_cons_of_mem _ i)
   ·simp only[g,if_false]
    exact j _ fun p i=>f p (List.mem_cons_of_mem _ i)
 unfold closureFor
 exact Eq.trans (congrArg (fun t:Sem (List (Str×Addr))=>t>>=fun m=>pure m) (go scope.names [] h)) rfl
def Nq (env:Env) (n:Str) (k:NameKind):NameKind:=if(k==.free&&env.scope.kind==.function&&env.kindOf n==some .cell)=true then .cell else k
theorem GO {g:Str->NameKind->NameKind} (y:Str):∀names:List (Str×NameKind),(names.map fun p=>(p.1,g p.1 p.2)).lookup y=(names.lookup y).map (g y)
 |[]=>rfl
 |(n,k)::r=>by
  rw[List.map_cons,List.lookup_cons,List.lookup_cons]
  cases e:y==n with
  |true=>
   have:y=n:=by simpa using e
   subst this
   rfl
  |false=>exact GO y r
theorem Ex (scope:Scope) (env:Env) (y:Str):(relabel scope env).names.lookup y=(scope.names.lookup y).map (Nq env y):=by
 have e:(relabel scope env).names=scope.names.map fun p=>(p.1,Nq env p.1 p.2):=by
  unfold relabel
  refine List.map_congr_left fun p _=>?_
  obtain⟨n,k⟩:=p
  show(if(k==NameKind.free&&env.scope.kind==.function&&env.kindOf n==some .cell)=true then(n,NameKind.cell)else(n,k))=(n,if(k==NameKind.free&&env.scope.kind==.function&&env.kindOf n==some .cell)=true then NameKind.cell else k)
  by_cases h:(k==NameKind.free&&env.scope.kind==.function&&env.kindOf n==some .cell)=true
  ·rw[if_pos h,if_pos h]
  ·rw[if_neg h,if_neg h]
 rw[e]
 exact GO y _
def Cq (σ:St) (fs:List Nat):St:=fs.map fun i=>(σ[i]?).join
theorem Sy {σ:St} {fs:List Nat} {j:Nat} {v:V} (h:(Cq σ fs)[j]?=some (some v)):∃i,fs[j]?=some i/\σ[i]?=some (some v):=by
 unfold Cq at h
 rw[List.getElem?_map]at h
 cases e:fs[j]? with
 |none=>rw[e]at h;cases h
 |some i=>
  rw[e]at h
  refine⟨i,rfl,?_⟩
  have a:(σ[i]?).join=some v:=ADt h
  cases b:σ[i]? with
  |none=>rw[b]at a;cases a
  |some o=>
   rw[b]at a
   have a:o=some v:=a
   rw[a]
structure Di (X:Cx) (scope:Scope) (x:Str) (fv:List Str) (fs:List Nat):Prop where
 kind:scope.kind=.function
 Uu:∀p∈scope.names,p.2≠.cell
 names:∀p∈scope.names,p.2=.local->scope.names.lookup p.1=some .local
 tg:scope.names.lookup x=some .local
 free:∀p∈scope.names,p.2=.free->X.env.scope.names.lookup p.1=some .cell
 nd:(x::fv).Nodup
 yT:∀(j:Nat) y,fv[j]?=some y->∃i,fs[j]?=some i/\X.N[i]?=some y/\scope.names.lookup y=some .free
 len:fv.length=fs.length
def RT (a:Scope) (N:List Str) (scope:Scope) (x:Str) (fv:List Str) (fs:List Nat):Bool:=
 scope.kind==.function&&(scope.names.all fun p=>p.2 !=.cell)&&(scope.names.all fun p=>p.2 !=.local||scope.names.lookup p.1==some .local)&&scope.names.lookup x==some .local&&
 (scope.names.all fun p=>p.2 !=.free||a.names.lookup p.1==some .cell)&&decide (x::fv).Nodup&&fs.map (N[·]?)==fv.map some&&(fv.all fun y=>scope.names.lookup y==some .free)
theorem Di.of {X:Cx} {scope:Scope} {x:Str} {fv:List Str} {fs:List Nat} (h:RT X.env.scope X.N scope x fv fs=true):Di X scope x fv fs:=by
 unfold RT at h
 simp only[Bool.and_eq_true,List.all_eq_true,Bool.or_eq_true,bne_iff_ne,beq_iff_eq,decide_eq_true_eq]at h
 obtain⟨⟨⟨⟨⟨⟨⟨g,i⟩,k⟩,m⟩,n⟩,o⟩,f⟩,q⟩:=h
 have hlen:fs.length=fv.length:=by
  have:=congrArg List.length f
  simpa using this
 refine⟨g,i,fun p b c=>(k p b).resolve_left fun z=>z c,m,fun p b c=>(n p b).resolve_left fun z=>z c,o,fun j y e=>?_,hlen.symm⟩
 have r:j<fv.length:=(ADs e).1
 have d:=congrArg (fun l=>l[j]?) f
 simp only[List.getElem?_map,e]at d
 have a:j<fs.length:=by lia
 rw[ADr a]at d
 refine⟨fs[j],ADr a,?_,q y (ADu e)⟩
 simpa using d
abbrev DW (X:Cx) (N':List Str) (scope:Scope) (C:Addr) (s0:Shared) (H0:Hp) (fp:List Addr):Cx where
 prog:=X.prog
 w:=X.w
 K:=X.K
 mg:=X.mg
 base:=X.base
 A:=X.A
 N:=N'
 s₀:=s0
 H₀:=H0
 env:=compEnvC scope (Ds X.env.cells scope.names []) C X.env
 outer:=X.stack
 stack:=X.stack
 ex:=fp
 fn:=fun _=>false
 calm:=X.calm
 pn:=[]
 xe:=fun _ _=>False
section
variable{X:Cx} {pins:List (Addr×Obj)} {σ:St} {H H':Hp} {s s':Shared} {scope:Scope} {x:Str} {fv:List Str} {fs:List Nat} {fp:List Addr}
theorem Di.cells (ok:Di X scope x fv fs) (I:Inv X pins σ H s):∀p∈scope.names,p.2=.free->∃c,X.env.cells.lookup p.1=some c:=fun p a b=>I.ok.has p.1 (.inl (ok.free p a b))
theorem Di.look (ok:Di X scope x fv fs) (I:Inv X pins σ H s) {y:Str} {c:Addr} (h:(Ds X.env.cells scope.names []).lookup y=some c):X.env.cells.lookup y=some c:=
 EM scope.names [] (ok.cells I) (fun _ _ z=>by cases z) h
theorem QF (ok:Di X scope x fv fs) (I:Inv X pins σ H s) (t:∀b∈fp,Gz X pins H b) (w:∀b∈fp,∃o,s.heap.get? b=some o) {h:Heap} {m:Str->Option Value} {tk:Nat} (N:h.Ns s.heap.objs.size m)
  (kept:∀b o,s.heap.get? b=some o->h.get? b=some o):Inv (DW X (x::fv) scope s.heap.objs.size s H fp) [] (none::Cq σ fs) H {s with heap:=h,toks:=tk}:=by
 have g:=fun{y c}=>ok.look I (y:=y) (c:=c)
 have A:X.env.scope.kind=.function:=I.ok.kind
 refine⟨⟨I.ok.mod,ok.kind,I.ok.glob,I.ok.blt,Nat.le_refl _,fun y z c h O=>I.ok.inj y z c (g h) (g O),fun y a=>?_,fun y c B _=>(by cases B),I.ok.hd,I.ok.frames,.inl rfl,fun b f=>⟨?_,fun y c e z=>(t b f).2.2.2.2.1 y c (g e) z⟩,I.bs,
  Nat.le_trans I.ok.Zg I.sz,fun b o e f=>?_,fun b f C=>?_,I.stack,I.RD⟩,rfl,I.bare,Un.kept kept,⟨m,N,fun i y v D d T=>?_⟩,fun y c e=>?_,I.fresh,fun y c e=>I.DS y c (g e),fun p P=>absurd (show p∈([]:List (Addr×Obj))from P) (by simp),I.BS.kept kept,?_⟩
 ·have a:(relabel scope X.env).names.lookup y=some .cell∨(relabel scope X.env).names.lookup y=some .free:=a
  rw[Ex]at a
  have E:scope.names.lookup y=some .free:=by
   cases e:scope.names.lookup y with
   |none=>rw[e]at a;rcases a with z|z<;>cases z
   |some k=>
    rw[e]at a
    have a:Nq X.env y k=.cell∨Nq X.env y k=.free:=a.elim (fun z=>.inl (ADt z)) fun z=>.inr (ADt z)
    by_cases F:k=.free
    ·rw[F]
    ·have d:Nq X.env y k=k:=by
      unfold Nq
      have:(k==NameKind.free)=false:=by simpa using F
      rw[this]
      rfl
     rw[d]at a
     rcases a with z|z
     ·subst z
      exact absurd rfl (ok.Uu _ (PySem.mem_of_lookup e))
     ·exact absurd z F
  exact Option.isSome_iff_exists.mp (FL scope.names [] (.inr (PySem.mem_of_lookup E)))
 ·obtain⟨o,n⟩:=w b f
  exact Nat.ne_of_lt (Heap.lt_size n)
 ·rcases(t b f).2.2.2.1 with z|z
  ·exact I.ok.UK b o e z
  ·exact absurd (Nat.lt_of_lt_of_le (Heap.lt_size e) (Nat.le_trans I.ok.Zg z)) (Nat.lt_irrefl _)
 ·rcases List.mem_cons.mp (I.Pl b C)with z|z
  ·exact(t b f).2.1 z
  ·exact(t b f).2.2.1 z
 ·cases i with
  |zero=>
   have d:(some none:Option (Option V))=some (some v):=d
   cases d
  |succ j=>
   have D:fv[j]?=some y:=D
   have d:(Cq σ fs)[j]?=some (some v):=d
   obtain⟨i,Q,R⟩:=Sy d
   obtain⟨U,M,S,G⟩:=ok.yT j y D
   rw[Q]at M
   cases M
   have J:X.env.scope.names.lookup y=some .cell:=ok.free (y,.free) (PySem.mem_of_lookup G) rfl
   obtain⟨W,_,K⟩:=I.loc
   obtain⟨u,r,l⟩:=K i y v S R (.inr (.inl J))
   refine⟨u,r,?_⟩
   rcases l with⟨k,_⟩|⟨_,c,e,o,n,hd⟩
   ·have k:X.env.scope.names.lookup y=some .local:=k
    rw[J]at k
    cases k
   ·obtain⟨Y,q⟩:=Option.isSome_iff_exists.mp (FL (cells:=X.env.cells) scope.names [] (.inr (PySem.mem_of_lookup G)))
    have:=g q
    rw[e]at this
    cases this
    refine .inr ⟨.inl ?_,c,q,o,kept _ _ n,hd⟩
    show(relabel scope X.env).names.lookup y=some .cell
    rw[Ex,G]
    show some (Nq X.env y .free)=_
    have L:X.env.kindOf y=some .cell:=J
    unfold Nq
    rw[A,L]
    rfl
 ·obtain⟨v,o,n,hd⟩:=I.cell y c (g e)
  exact⟨v,o,kept _ _ n,hd⟩
 ·show(none::Cq σ fs).length=(x::fv).length
  simp[Cq,ok.len]
theorem QG {e:St} {C:Addr} {f:List Str} (I:Inv X pins σ H s) (a:∀b∈fp,Gz X pins H b) (c:Inv (DW X f scope C s H fp) [] e H' s'):Inv X pins σ H' s':=
 I.eQ (ch:=fp) c.os c.base c.BS c.bare fun b d=>⟨(a b d).2.2.2.1,(a b d).2.1,(a b d).2.2.2.2.1,(a b d).2.2.2.2.2⟩
theorem Inv.off {C:Addr} {h':Heap} (I:Inv X pins σ H s) (f:Gz X pins H C) (a:Heap.SameBut C s.heap h'):Inv X pins σ H {s with heap:=h'}:=
 I.turned (t':=s.toks) (fun b o c e=>a.extBut b o c e) f.1 (fun z=>f.2.1 z) f.2.2.2.1 f.2.2.2.2.1 f.2.2.2.2.2
end
def ft (X:Cx) (a:List Expr) (t:TT):Prop:=
 ∀(pins:List (Addr×Obj)) (s:Shared) (b:St) (H:Hp) (Q:Bool->Hp->Prop),Inv X pins b H s->t b H Q->
  wpAny (model X.prog X.w) X.A (forIn a true fun c r=>if r=true then do let ok<-isTrue c X.env (eval c X.env);pure (ForInStep.yield ok)else pure (ForInStep.yield r)) (TP X pins b Q) X.xe s
def QH:TT:=fun _ H Q=>Q true H
theorem Bi {X:Cx}:ft X [] QH:=fun _ _ _ H _ I h=>wpAny_tests_nil ⟨H,I,h⟩
theorem GP {X:Cx} {c:Expr} {t:TT} (h:PT X c t):ft X [c] t:=fun pins s a H Q I q=>wpAny_tests_one (h pins s a H Q I q)
def Ft (J:It) (g:TT) (h:TE) (fs:List Nat) (σ:St) (H:Hp) (Q:VK):Prop:=∀D,H D=none->∃W:Nat->Nat->Hp->Prop,(∃m,W 0 m (upd H D (.lst [])))/\∀i m a,W i m a->
 (J.stop i a/\Q (.ref D) a)∨(J.go i a/\∀v d,J.Sf i a v d->g (some v::Cq σ fs) d fun ok e=>
  if ok=true then h (some v::Cq σ fs) e fun y f=>∃c,f D=some (.lst c)/\c.length<sizeLine/\∃b,b<m/\W (i+1) b (upd f D (.lst (c++[y])))else∃b,b<m/\W (i+1) b e)
def Uv (b:TI) (c:TT) (d:TE) (fs:List Nat):TE:=fun a H Q=>b a H fun J e=>Ft J c d fs a e Q
section
variable{X:Cx} {elt iter:Expr} {x:Str} {px pos:Pos} {ifs:List Expr} {scope:Scope} {fv:List Str} {fs:List Nat} {wi:TI} {te:TE} {tc:TT}
theorem Nr (hc:X.calm=true) (ok:Di X scope x fv fs) (yU:∀C s0 H0 d,ft (DW X (x::fv) scope C s0 H0 d) ifs tc) (he:∀C s0 H0 d,PE (DW X (x::fv) scope C s0 H0 d) elt te)
  {pins:List (Addr×Obj)} {σ:St} {H:Hp} {s:Shared} {E:Value->Shared->Prop} {it:Addr} {d:List Addr} {F:Nat->Heap->Prop} {J:It} {Q:VK} (I:Inv X pins σ H s) (T:Turn X.prog X.w X.K (.Name x px) J d it F) (st:F 0 s.heap)
  (hf:∀b∈d,Gz X pins H b)
  (rd:Ft J tc te fs σ H Q)
  {RR:Value->Addr->Result->Shared->Prop}
  (yV:∀D C t f,Inv X pins σ f t->Gz X pins f C->(∃m,t.heap.Ns C m)->Q (.ref D) f->RR (.ref D) C (.ok .next) t):
  wpAny (model X.prog X.w) X.A (newList []) (fun G a=>wpAny (model X.prog X.w) X.A (newFunctionEnv scope X.env.globals (Ds X.env.cells scope.names []) [] X.env.qual none .none (some X.env)) (fun h s4=>
   codeAny (model X.prog X.w) X.A (.compStart (.ListComp elt [⟨.Name x px,iter,ifs,0⟩] scope pos) 0 (.ref it) G {h with scope:=relabel scope X.env}) (RR G h.locals) s4) E a) E s:=by
 obtain⟨W,⟨m0,w0⟩,turn⟩:=rd s.heap.objs.size I.fresh
 have V:Inv X pins σ (upd H s.heap.objs.size (.lst [])) {s with heap:=s.heap.push {cls:=.type "list",dict:=none,data:=.seq ([]:List Value).toArray}}:=I.bF (its:=[]) (ys:=[]) (t':=s.toks) .nil (Nat.zero_le _)
 refine wpAny_newObj_type ?_
 show wpAny _ _ _ _ _ ({s with heap:=s.heap.push {cls:=.type "list",dict:=none,data:=.seq ([]:List Value).toArray}}:Shared)
 generalize yW:({s with heap:=s.heap.push {cls:=.type "list",dict:=none,data:=.seq ([]:List Value).toArray}}:Shared)=a at V⊢
 refine wpAny_newFunctionEnv ok.Uu (fun y hy=>absurd hy (by simp)) (fun h1 yX yY=>?_) ok.kind
 have eh:a.heap=s.heap.push {cls:=.type "list",dict:=none,data:=.seq ([]:List Value).toArray}:=by rw[<-yW]
 have L:∀b o,s.heap.get? b=some o->a.heap.get? b=some o:=fun b o e=>by rw[eh];exact Heap.get?_push_of_some _ e
 have yZ:∀b∈d,∃o,a.heap.get? b=some o:=fun b c=>let⟨o,ho,_⟩:=T.obj 0 _ st b c;⟨o,L b o ho⟩
 have ya:∀b∈d,b≠s.heap.objs.size:=fun b c=>let⟨o,ho,_⟩:=T.obj 0 _ st b c;Nat.ne_of_lt (Heap.lt_size ho)
 have j:∀b∈d,Gz X pins (upd H s.heap.objs.size (.lst [])) b:=fun b c=>⟨by rw[AK (ya b c)];exact(hf b c).1,(hf b c).2⟩
 have kept:∀b o,a.heap.get? b=some o->h1.get? b=some o:=fun b o e=>yY.extBut b o (Nat.ne_of_lt (Heap.lt_size e)) (Heap.get?_push_of_some _ e)
 have Y:=QF (tk:=a.toks+([]:List (Str×Value)).length) ok V j yZ yX kept
 have M:F 0 h1:=T.keep 0 _ _ st fun b c o e=>kept b o (L b o e)
 have g:∀{f:Hp},(∀b∈d,f b=none)->∀b∈d,Gz (DW X (x::fv) scope a.heap.objs.size a (upd H s.heap.objs.size (.lst [])) d) [] f b:=fun hn b c=>
  ⟨hn b c,(Y.ok.jP b c).1,Y.ok.UL b c,.inl c,(Y.ok.jP b c).2,fun p hp=>absurd hp (by simp)⟩
 have hg:PG (DW X (x::fv) scope a.heap.objs.size a (upd H s.heap.objs.size (.lst [])) d) (.Name x px) (Eo 0):=Bh ok.nd rfl (.inl (lookup_relabel_local ok.tg)) (.inr (lookup_relabel_local ok.tg))
 have loop:codeAny (model X.prog X.w) X.A (.compLoop (.ListComp elt [⟨.Name x px,iter,ifs,0⟩] scope pos) 0 (.ref it) (.ref s.heap.objs.size) (compEnvC scope (Ds X.env.cells scope.names []) a.heap.objs.size X.env)) (RR (.ref s.heap.objs.size) a.heap.objs.size)
   {a with heap:=h1,toks:=a.toks+([]:List (Str×Value)).length}:=by
  refine QE (fun n t=>∃i o f,Inv (DW X (x::fv) scope a.heap.objs.size a (upd H s.heap.objs.size (.lst [])) d) [] (o::Cq σ fs) f t/\F i t.heap/\(∀b∈d,f b=none)/\W i n f) ?_ m0
   ⟨0,none,_,Y,M,fun b c=>(j b c).1,w0⟩
  rintro n s5 ⟨i,o,Z,I5,N,O,w5⟩
  rcases turn i n Z w5 with⟨stop,q⟩|⟨go,step⟩
  ·refine BZ (T.done (DW X (x::fv) scope a.heap.objs.size a (upd H s.heap.objs.size (.lst [])) d) rfl rfl rfl hc i [] s5 _ Z _ I5 (g O) N stop) fun r s6 ⟨hr,I6⟩=>?_
   subst hr
   obtain⟨m,hm,_⟩:=I6.loc
   exact yV _ _ s6 Z (QG V j I6) (V.Sg (Nat.le_refl _) I6.free) ⟨m,hm⟩ q
  ·refine BZ (T.item (DW X (x::fv) scope a.heap.objs.size a (upd H s.heap.objs.size (.lst [])) d) rfl rfl rfl hc i [] s5 _ Z _ I5 (g O) N go) fun r s6 ⟨u,hr,h6⟩=>?_
   subst hr
   refine BZ h6 fun _ s7 ⟨v,H7,I7,r7,y7,k,yb⟩=>?_
   have yc:=I7.pinned (g yb) (T.obj _ _ k)
   have back:∀{P:St} {z:Hp} {R:Shared},Inv (DW X (x::fv) scope a.heap.objs.size a (upd H s.heap.objs.size (.lst [])) d) ([]++Iw d s7.heap) P z R->F (i+1) R.heap/\∀b∈d,z b=none:=fun{P z R} B=>
    ⟨T.keep _ _ _ k fun b c o e=>(B.pin (b,o) (EJ c e)).1,fun b c=>by
     obtain⟨o,e,_⟩:=T.obj _ _ k b c
     exact(B.pin (b,o) (EJ c e)).2.1⟩
   refine BZ (hg _ s7 _ H7 v u (fun σ2 H2=>σ2=some v::Cq σ fs/\H2=H7) yc r7 ⟨rfl,rfl⟩) fun _ s8 ⟨σ8,H8,I8,e8,yd⟩=>?_
   subst e8 yd
   refine BZ (yU _ _ _ _ _ s8 _ H8 _ I8 (step v H8 y7)) fun ok R ⟨z,B,q9⟩=>?_
   cases ok with
   |false=>
    obtain⟨m',l,w9⟩:=q9
    obtain⟨b1,b2⟩:=back B
    exact⟨m',l,i+1,some v,z,B.Ep,b1,b2,w9⟩
   |true=>
    refine BZ (he _ _ _ _ _ R _ z _ B q9) fun y s10 ⟨yv,S,ye,r10,ys,hD,hz,m',l,w10⟩=>?_
    refine BZ (FK _ s10 _ S (.ref s.heap.objs.size) [yv] (.ref s.heap.objs.size) [y] (fun _ f=>f=upd S s.heap.objs.size (.lst (ys++[yv]))) ye rfl (.cons r10 .nil) ⟨_,ys,yv,rfl,rfl,hD,hz,rfl⟩) fun _ s11 ⟨_,yf,U,_,e11⟩=>?_
    subst e11
    obtain⟨b1,b2⟩:=back U
    exact⟨m',l,i+1,some v,_,U.Ep,b1,b2,w10⟩
 exact codeAny_compStart_list loop (T.self _ 0 _ _ _ M loop)
theorem Bb (g:X.calm=true) (ok:Di X scope x fv fs) (i:PI X (.Name x px) iter wi) (b:∀C c d a,ft (DW X (x::fv) scope C c d a) ifs tc) (j:∀C c d a,PE (DW X (x::fv) scope C c d a) elt te)
  (k:∀x,foldedSetIterable iter X.env x=pure x:=by intro _;rfl):PE X (.ListComp elt [⟨.Name x px,iter,ifs,0⟩] scope pos) (Uv wi tc te fs):=by
 intro pins s l H Q I h
 rw[eval_ListComp]
 refine wpAny_comprehension_free (use:=none) rfl k (Dt (ok.cells I)) ok.kind ok.names (BZ (i pins s l H _ I h) fun A B n=>BZ n fun o E p=>?_)
 obtain⟨F,a,G,J,K,rfl,r,T,e,t,u⟩:=p
 exact Nr g ok b j r T e t u fun D C L v w y ⟨m,z⟩ q=>⟨m,z,fun M f=>⟨.ref D,v,w.off y f,rfl,q⟩⟩
theorem EN {i:Nat} {y:Str} {c b:Pos} (K:X.calm=true) (ok:Di X scope x fv fs) (L:X.N.Nodup) (k:X.N[i]?=some y) (M:Loc X.env.scope y) (O:PI X (.Name x px) iter wi) (l:∀C n o g,ft (DW X (x::fv) scope C n o g) ifs tc)
  (P:∀C n o g,PE (DW X (x::fv) scope C n o g) elt te) (p:swapsWith (.ListComp elt [⟨.Name x px,iter,ifs,0⟩] scope pos) (some (.Name y c)) b.line X.env=pure true:=by rfl)
  (r:X.fn y=true∨X.env.scope.names.lookup y=some .local:=by first|exact .inl rfl|exact .inr rfl|assumption)
  (R:∀x,foldedSetIterable iter X.env x=pure x:=by intro _;rfl):PS X (.Assign [.Name y c] (.ListComp elt [⟨.Name x px,iter,ifs,0⟩] scope pos) b) (fun D d H=>Uv wi tc te fs d H fun v f=>D.nx (d.set i (some v)) f):=by
 intro pins s d H D I h
 rw[exec_Assign_Name_used _ _ _ _ p]
 refine wpAny_bind (wpAny_standAt (wpAny_bind ?_))
 show wpAny _ X.A (comprehension (.ListComp elt [⟨.Name x px,iter,ifs,0⟩] scope pos) scope X.env _ (newList []) false (eval iter X.env) (some (assign (.Name y c) X.env))>>=fun _=>pure ()) _ _ s
 refine wpAny_bind (BZ (wpAny_comprehension_free (use:=some (assign (.Name y c) X.env)) (Q:=fun _ j=>SP X pins D .next j) rfl R (Dt (ok.cells I)) ok.kind ok.names
  (BZ (O pins s d H _ I h) fun xv s1 S=>BZ S fun U s2 V=>?_)) fun _ j W=>wpAny_pure (wpAny_pure W))
 obtain⟨it,g,tn,J,H2,rfl,Y,T,t,Z,rd⟩:=V
 refine Nr (Q:=fun v f=>D.nx (d.set i (some v)) f) K ok l P Y T t Z rd fun G C j f I' u ⟨m,hm⟩ q=>?_
 show wpAny _ X.A (assign (.Name y c) X.env (.ref G)) _ _ j
 refine wpAny_assign_Name (Kw I' L k M (v:=.ref G) rfl (fun jW w ⟨a,B,ha⟩=>?_) r)
 have E:C≠a:=by
  rcases ha with z|z
  ·rw[z];exact u.2.1
  ·exact fun e=>u.2.2.2.2.1 y a z e.symm
 exact⟨m,hm.sameBut B E,fun h' F=>⟨_,f,w.off u F,q⟩⟩
end
theorem Cv {J:It} {k:TT} {f:TE} {fs:List Nat} {σ:St} {H:Hp} {Q:VK} {n:Nat} (item g:Nat->V) (p:Nat->Bool) (z:n<=sizeLine)
  (h:∀i D ys,i<n->H D=none->J.go i (upd H D (.lst ys)))
  (r:∀i D ys v l,i<n->H D=none->J.Sf i (upd H D (.lst ys)) v l->v=item i/\l=upd H D (.lst ys))
  (j:∀D ys,H D=none->J.stop n (upd H D (.lst ys)))
  (s:∀i D ys (R:Bool->Hp->Prop),i<n->H D=none->R (p i) (upd H D (.lst ys))->k (some (item i)::Cq σ fs) (upd H D (.lst ys)) R)
  (t:∀i D ys (R:VK),i<n->H D=none->p i=true->R (g i) (upd H D (.lst ys))->f (some (item i)::Cq σ fs) (upd H D (.lst ys)) R)
  (u:∀D,H D=none->Q (.ref D) (upd H D (.lst (((List.range n).filter p).map g)))):
  Ft J k f fs σ H Q:=by
 intro D c
 refine⟨fun i m o=>m=n-i/\i<=n/\o=upd H D (.lst (((List.range i).filter p).map g)),⟨n,by simp⟩,?_⟩
 rintro i m o ⟨rfl,A,rfl⟩
 by_cases a:i<n
 ·refine .inr ⟨h i D _ a c,fun v w x=>?_⟩
  obtain⟨rfl,rfl⟩:=r i D _ v w a c x
  refine s i D _ _ a c ?_
  have q:∀b,p i=b->((List.range (i+1)).filter p).map g=((List.range i).filter p).map g++(if b=true then[g i]else[]):=fun b d=>by
   rw[List.range_succ,List.filter_append,List.map_append]
   cases b with
   |true=>simp[d]
   |false=>simp[d]
  cases d:p i with
  |false=>
   show∃y,y<n-i/\_
   refine⟨n-(i+1),by lia,rfl,a,?_⟩
   rw[q false d]
   simp
  |true=>
   show f _ _ _
   refine t i D _ _ a c d ⟨_,AE,?_,n-(i+1),by lia,rfl,a,?_⟩
   ·rw[List.length_map]
    have:=List.length_filter_le p (List.range i)
    rw[List.length_range]at this
    lia
   ·rw[Xa,q true d]
    simp
 ·have e:i=n:=by lia
  subst e
  exact .inl ⟨j D _ c,u D c⟩
theorem AG.put {H a:Hp} {D:Addr} {o:HO} (s:AG H a) (h:H D=none):AG H (upd a D o):=fun b u e=>by
 rw[AK (Ac e h)]
 exact s b u e
theorem AG.new {H:Hp} {D:Addr} {o:HO} (h:H D=none):AG H (upd H D o):=(AG.refl H).put h
theorem CQ {J:It} {f:TE} {fs:List Nat} {σ:St} {H:Hp} {Q:VK} {n:Nat} (item:Nat->V) (Ok:Nat->V->Prop) (C:n<=sizeLine)
  (g:∀i H2,i<n->AG H H2->J.go i H2)
  (u:∀i H2 v o,i<n->AG H H2->J.Sf i H2 v o->v=item i/\o=H2)
  (h:∀H2,AG H H2->J.stop n H2)
  (w:∀i H2 (R:VK),i<n->AG H H2->(∀y d,AG H2 d->Ok i y->R y d)->f (some (item i)::Cq σ fs) H2 R)
  (x:∀D H2 ys,H D=none->AG H H2->H2 D=some (.lst ys)->ys.length=n->(∀(i:Nat) y,ys[i]?=some y->Ok i y)->Q (.ref D) H2):
  Ft J QH f fs σ H Q:=by
 intro D k
 refine⟨fun i m H2=>m=n-i/\i<=n/\AG H H2/\∃ys,H2 D=some (.lst ys)/\ys.length=i/\∀(j:Nat) y,ys[j]?=some y->Ok j y,⟨n,by simp,Nat.zero_le _,AG.new k,[],AE,rfl,fun j y z=>by simp at z⟩,?_⟩
 rintro i m H2 ⟨rfl,E,c,ys,p,r,s⟩
 by_cases a:i<n
 ·refine .inr ⟨g i H2 a c,fun v d A=>?_⟩
  obtain⟨rfl,rfl⟩:=u i H2 v d a c A
  show f _ _ _
  refine w i _ _ a c fun y F t l=>⟨ys,t _ _ p,by lia,n-(i+1),by lia,rfl,a,(c.trans t).put k,ys++[y],AE,by simp[r],fun j z b=>?_⟩
  by_cases B:j<ys.length
  ·rw[List.getElem?_append_left B]at b
   exact s j z b
  ·rw[List.getElem?_append_right (by lia)]at b
   have e:j-ys.length=0:=by
    cases q:j-ys.length with
    |zero=>rfl
    |succ G=>rw[q]at b;simp at b
   rw[e]at b
   have:y=z:=by simpa using b
   subst this
   have:j=i:=by lia
   subst this
   exact l
 ·have e:i=n:=by lia
  subst e
  exact .inl ⟨h H2 c,x D H2 ys k c p r s⟩
open Builtin Builtin.Str
theorem Xw (n m:Nat):max 0 (min (m:Int) (n:Int))=((min m n:Nat):Int):=by
 rw[Int.max_eq_right (Int.le_min.mpr ⟨Int.natCast_nonneg _,Int.natCast_nonneg _⟩)]
 by_cases h:m<=n
 ·rw[Nat.min_eq_left h,Int.min_eq_left (Int.ofNat_le.mpr h)]
 ·rw[Nat.min_eq_right (Nat.le_of_not_le h),Int.min_eq_right (Int.ofNat_le.mpr (Nat.le_of_not_le h))]
theorem Uw (n:Nat) {i:Int} (h:i<0):max 0 (min (i+(n:Int)) (n:Int))=(((i+(n:Int)).toNat:Nat):Int):=by
 rw[Int.min_eq_left (by lia),Int.toNat_eq_max,Int.max_comm]
theorem Ux (l u:Option Int) (n:Nat):strSliceIndices l u 1 n=(List.range (HT.GC n n u-HT.GC n 0 l)).map (HT.GC n 0 l+·):=by
 have clip:∀(v:Option Int) (d:Nat),(match v with|none=>(d:Int)|some i=>max 0 (min (if i<0 then i+(n:Int)else i) (n:Int)))=((HT.GC n d v:Nat):Int):=by
  intro v d
  cases v with
  |none=>rfl
  |some i=>
   show max 0 (min (if i<0 then i+(n:Int)else i) (n:Int))=(((if i<0 then(i+(n:Int)).toNat else min i.toNat n):Nat):Int)
   by_cases h:i<0
   ·simp only[if_pos h];exact Uw n h
   ·simp only[if_neg h]
    obtain⟨m,rfl⟩:=Int.eq_ofNat_of_zero_le (Int.not_lt.mp h)
    exact Xw n m
 have c:=clip l 0
 have e:=clip u n
 unfold strSliceIndices sliceRange
 simp only[show(1:Int)>0 by decide,if_true,Int.one_mul,Int.ediv_one]
 have f:((0:Nat):Int)=0:=rfl
 rw[f]at c
 have gen:∀(A B:Int) (a b:Nat),A=(a:Int)->B=(b:Int)->List.map (fun k:Nat=>(A+(k:Int)).toNat) (List.range (if A<B then B-A+1-1 else 0).toNat)=List.map (fun x=>a+x) (List.range (b-a)):=by
  intro A B a b hA g
  subst hA g
  have j:(if(a:Int)<(b:Int)then(b:Int)-(a:Int)+1-1 else 0).toNat=b-a:=by
   split<;>lia
  rw[j]
  refine List.map_congr_left fun k _=>?_
  lia
 exact gen _ _ _ _ c e
def QI (xs:List Nat) (l u:Option Int):List Nat:=(xs.drop (HT.GC xs.length 0 l)).take (HT.GC xs.length xs.length u-HT.GC xs.length 0 l)
theorem QJ {c:Type} (xs:List c) (a k:Nat) (h:a+k<=xs.length):((List.range k).map (a+·)).filterMap (xs[·]?)=(xs.drop a).take k:=by
 rw[List.filterMap_map]
 induction k with
 |zero=>simp
 |succ k d=>
  rw[List.range_succ,List.filterMap_append,d (by lia)]
  have b:a+k<xs.length:=by lia
  have e:(xs.drop a)[k]?=some (xs[a+k]):=by
   rw[List.getElem?_drop]
   exact ADr b
  rw[List.take_add_one,e]
  simp[b]
theorem Nt (x:Str) (l u:Option Int):(Txt.slice x l u).cps.toList=QI x.cps.toList l u:=by
 have hlen:x.cps.toList.length=x.length:=by rw[Array.length_toList];rfl
 have c:HT.GC x.length x.length u<=x.length:=by
  cases u with
  |none=>exact Nat.le_refl _
  |some v=>
   show(if v<0 then(v+(x.length:Int)).toNat else min v.toNat x.length)<=x.length
   split<;>lia
 unfold Txt.slice QI
 rw[hlen,Ux]
 generalize k:HT.GC x.length 0 l=a
 generalize d:HT.GC x.length x.length u=b at c
 by_cases f:a<=b
 ·split
  ·rename_i h
   simp at h
   have:b-a=x.length:=h
   have g:a=0:=by lia
   have j:b=x.length:=by lia
   subst g
   rw[j,<-hlen,List.drop_zero,Nat.sub_zero,List.take_length]
  ·show(List.filterMap (fun i=>x.cps[i]?) _).toArray.toList=_
   rw[List.toList_toArray]
   have e:(fun i:Nat=>x.cps[i]?)=fun i:Nat=>x.cps.toList[i]?:=by
    funext i
    exact(Array.getElem?_toList).symm
   rw[e]
   exact QJ _ a (b-a) (by lia)
 ·have z:b-a=0:=by lia
  rw[z]
  simp only[List.range_zero,List.map_nil,List.take_zero]
  split
  ·rename_i h
   simp at h
   have:x.cps.toList=[]:=List.eq_nil_of_length_eq_zero (by rw[hlen];exact h.symm)
   exact this
  ·rfl
section
variable{X:Cx}
inductive Zu (x:V) (lo:Option Int) (a:Option Int) (H:Hp) (Q:VK):Prop
 |mk (z:_) (b:x=.str z) (c:z.length<=sizeLine) (d:Q (.str (Txt.slice z lo a)) H):Zu x lo a H Q
def lV:V->Option Int->Option Int->Hp->VK->Prop:=fun x lo a H Q=>Zu x lo a H Q
theorem MR:lM X lV:=by
 intro pins s g H x v o p lo m r Q I n a pl e h
 obtain⟨z,rfl,b,q⟩:=h
 obtain⟨t,rfl⟩:=n
 refine⟨"str",_,F.slot_str_getitem.lookup,typeIs_str _ _ _,?_⟩
 have fin:∀c k,EP X pins g Q (.str (Txt.slice z lo m) c) {s with toks:=k}:=fun c k=>⟨.str _,H,I.tok k,⟨c,rfl⟩,q⟩
 cases pl with
 |none=>
  cases e with
  |none=>exact wpAny_getItem_str_slice (l:=none) (u:=none) (st:=none) a rfl (post_val_or_str ⟨Nat.le_trans (Txt.slice_le z _ _) b,fin⟩)
  |int j d=>exact wpAny_getItem_str_slice (l:=none) (u:=some (j,d)) (st:=none) a rfl (post_val_or_str ⟨Nat.le_trans (Txt.slice_le z _ _) b,fin⟩)
 |int i f=>
  cases e with
  |none=>exact wpAny_getItem_str_slice (l:=some (i,f)) (u:=none) (st:=none) a rfl (post_val_or_str ⟨Nat.le_trans (Txt.slice_le z _ _) b,fin⟩)
  |int j d=>exact wpAny_getItem_str_slice (l:=some (i,f)) (u:=some (j,d)) (st:=none) a rfl (post_val_or_str ⟨Nat.le_trans (Txt.slice_le z _ _) b,fin⟩)
end
section
variable{X:Cx} {tg:Expr}
inductive IA (K:ADv) (xs:List V) (H:Hp) (Q:VK):Prop
 |mk (p:Addr) (bs:List Bool) (a:xs=[.ref p]) (b:Ap K H p (bs.map V.bl)) (c:Q (.bl (bs.all id)) H):IA K xs H Q
def JI (K:ADv):List V->Hp->VK->Prop:=fun a H Q=>IA K a H Q
theorem JJ (x:X.calm=true):BD X (.builtin "all") (JI X.K):=by
 intro pins s L H M N Q I r h
 obtain⟨p,bs,rfl,y,q⟩:=h
 obtain⟨u,rfl,l⟩:=vals1 r
 cases l
 obtain⟨d,m,pl,O⟩:=I.list y
 obtain⟨B,f,g⟩:=id pl.isList
 have n:p<s.heap.objs.size:=Heap.lt_size f
 have t:X.A.in1.handled=none:=I.ok.hd x
 have hlen:d.toArray.size=bs.length:=by rw[List.size_toArray,<-m.length,List.length_map]
 refine call_all_walk (wpAny_pyIter_list pl.isList ⟨s.heap.objs.size,_,_,_,_,_,fun i=>bs.getD i true,rfl,Walks.list t s.heap.objs.size p (Nat.ne_of_lt n) d.toArray,⟨⟨_,Heap.get?_push_size _ rfl,rfl,rfl⟩,⟨B,Heap.get?_push_of_some _ f,g⟩⟩,?_,fun P C kept=>?_⟩)
 ·intro i v D E R j k
  have j:d[i]?=some v:=by simpa using j
  have c:i<bs.length:=by
   have:=(ADs j).1
   rw[<-m.length,List.length_map]at this
   exact this
  have e:(bs.map V.bl)[i]?=some (V.bl bs[i]):=by rw[List.getElem?_map,ADr c];rfl
  obtain⟨u,w,l⟩:=m.get e
  rw[j]at w
  cases w
  cases l
  have F:bs.getD i true=bs[i]:=by rw[List.getD_eq_getElem?_getD,ADr c];rfl
  have k:E (bs.getD i true) D:=k
  rw[F]at k
  exact wpAny_truthy_bool k
 ·refine⟨.bl (bs.all id),H,I.kept (t':=C) fun b o e=>kept b o (fun z=>?_) (Heap.get?_push_of_some _ e),?_,q⟩
  ·have G:b=s.heap.objs.size:=by simpa using z
   exact Nat.ne_of_lt (Heap.lt_size e) G
  ·show Value.bool _=Value.bool _
   congr 1
   rw[hlen,Bool.eq_iff_iff,List.all_eq_true,List.all_eq_true]
   constructor
   ·intro a b J
    obtain⟨i,c,rfl⟩:=List.mem_iff_getElem.mp J
    have:=a i (List.mem_range.mpr c)
    rw[List.getD_eq_getElem?_getD,ADr c]at this
    exact this
   ·intro a i c
    have c:=List.mem_range.mp c
    rw[List.getD_eq_getElem?_getD,ADr c]
    exact a _ (List.getElem_mem c)
inductive bQ (K:ADv) (x:V) (vs:List V) (H:Hp) (Q:VK):Prop
 |mk (z:Str) (p:Addr) (ys:List Str) (a:x=.str z) (b:vs=[.ref p]) (c:Ap K H p (ys.map V.str)) (d:(ys.map (·.length)).sum+ys.length*z.length<=16777216) (e:Q (.str (Txt.join z ys)) H):bQ K x vs H Q
inductive Fm (x:V) (y:V) (H:Hp) (Q:VK):Prop
 |mk (z:_) (n:_) (a:x=.str z) (b:y=.int n) (c:MulOk z n) (d:Q (.str (Txt.mul z n)) H):Fm x y H Q
def MS:V->V->Hp->VK->Prop:=fun x y H Q=>Fm x y H Q
theorem QK:DC X (binaryOp .Mult) MS:=by
 intro pins s e H x y v u Q I b c h
 obtain⟨z,n,rfl,rfl,d,q⟩:=h
 obtain⟨t,rfl⟩:=b
 obtain⟨f,rfl⟩:=c
 exact SB.mul d fun a k=>⟨.str _,H,I.tok k,⟨a,rfl⟩,q⟩
inductive Sz (x:V) (y:V) (H:Hp) (Q:VK):Prop
 |mk (a:_) (b:_) (c:x=.bl a) (d:y=.bl b) (e:Q (.bl (a==b)) H):Sz x y H Q
inductive MT (x:V) (y:V) (H:Hp) (Q:VK):Prop
 |mk (a:_) (b:_) (c:x=.bl a) (d:y=.bl b) (e:Q (.bl (!(a==b))) H):MT x y H Q
inductive MU (K:ADv) (xs:List V) (H:Hp) (Q:VK):Prop
 |mk (x:_) (T:_) (t:_) (b:_) (a:xs=[x,.ty T]) (c:HK K H x t) (d:PySem.W.kitOne K t (.type T)=some b) (e:Q (.bl b) H):MU K xs H Q
inductive Uy (x:V) (vs:List V) (H:Hp) (Q:VK):Prop
 |mk (l:_) (xs:_) (i:_) (y:_) (a:x=.ref l) (b:vs=[.int ((i:Nat):Int),y]) (c:H l=some (.lst xs)) (d:i<=xs.length) (e:xs.length<sizeLine) (f:Q .BO (upd H l (.lst (xs.take i++y::xs.drop i)))):Uy x vs H Q
end
section
variable{X:Cx}
inductive Uz (x:V) (y:V) (H:Hp) (Q:VK):Prop
 |mk (a:_) (b:_) (xs:_) (ys:_) (d:x=.ref a) (e:y=.ref b) (f:H a=some (.tup xs)) (g:H b=some (.tup ys)) (h:xs.length+ys.length<=sizeLine) (i:∀p c,AG H c->c p=some (.tup (xs++ys))->Q (.ref p) c):Uz x y H Q
def fu:R2:=fun x y H Q=>Uz x y H Q
theorem RU:DC X (binaryOp .Add) fu:=by
 intro pins s D H x y v u Q I r t h
 obtain⟨a,b,w,E,rfl,rfl,j,k,G,q⟩:=h
 by_cases l:w=[]
 ·cases r
  cases t
  obtain⟨c,J,K,_⟩:=I.tuple (BY.of j)
  obtain⟨d,T,L,_⟩:=I.tuple (BY.of k)
  obtain⟨⟨M,N,data,O⟩,z,A,n,B⟩:=id K
  obtain⟨⟨C,m,data2,o⟩,f,g,P,i⟩:=id L
  simp only at A B g i
  subst A B g i
  have R:c=[]:=J.GF.mpr l
  refine concat_meets ⟨_,z,rfl⟩ ⟨_,f,rfl⟩ noFill_tuple_add seq_tuple_add PySem.F.slot_tuple_add PySem.F.entry_tuple_add (PySem.F.args_tuple_add_2 _ _)
   (tuple_addW0 a b c.toArray d.toArray n P N m O o (by simp[R])) ⟨z,f,?_⟩
  refine⟨.ref b,H,I.tok s.toks,rfl,q b H (AG.refl H) ?_⟩
  rw[l]
  exact k
 ·refine RO pins s D H (.ref a) (.ref b) v u Q I r t ⟨a,b,w,E,rfl,rfl,BY.of j,BY.of k,l,G,fun e=>?_,fun e p S=>q p _ (AG.new S) AE⟩
  refine q a H (AG.refl H) ?_
  rw[e,List.append_nil]
  exact j
end
end L2
namespace HT
open PySem PyProof.Rows
section
variable{prog:Program} {w:World} {A:Around} {E:Value->Shared->Prop} {s:Shared}
end
end HT
namespace L2
open PySem PySem.Spec PyProof.Rows
section
variable{X:Cx}
inductive fw (x:V) (lo:Option Int) (c:Option Int) (H:Hp) (Q:VK):Prop
 |mk (a:_) (xs:_) (d:x=.ref a) (e:H a=some (.tup xs)) (f:∀p b,AG H b->b p=some (.tup (Ki xs lo c))->Q (.ref p) b):fw x lo c H Q
end
inductive JK (H:Hp):V->String->Prop where
 |BO:JK H .BO "NoneType"
 |bl (b:Bool):JK H (.bl b) "bool"
 |int (i:Int):JK H (.int i) "int"
 |str (x:Str):JK H (.str x) "str"
 |lst {a:Addr} {xs:List V} (e:Rd H a (.lst xs)):JK H (.ref a) "list"
 |tup {a:Addr} {xs:List V} (e:H a=some (.tup xs)):JK H (.ref a) "tuple"
 |dK {a:Addr} {kvs:List (Key×V)} (e:Rd H a (.dK kvs)):JK H (.ref a) "dict"
theorem Rd.up {H b:Hp} {a:Addr} {u:HO} (h:Rd H a u) (s:∀o,H a=some o->b a=some o):Rd b a u:=by
 rcases h with h|⟨o,h⟩
 ·exact .inl (s _ h)
 ·exact .inr ⟨o,s _ h⟩
def U_ (T c:String):Bool:=T==c||(T=="bool"&&c=="int")
def Xx (c:String):Bool:=["int","bool","str","list","tuple","dict"].contains c
theorem RV {K:ADv} {H:Hp} {v:V} {T c:String} (h:JK H v T) (a:Xx c=true):PySem.W.kitOne K (.type T) (.type c)=some (U_ T c):=by
 have a:c="int"∨c="bool"∨c="str"∨c="list"∨c="tuple"∨c="dict":=by
  unfold Xx at a
  simpa using a
 cases h<;>rcases a with rfl|rfl|rfl|rfl|rfl|rfl<;>kernel_rfl
section
variable{X:Cx}
inductive Zv (xs:List V) (H:Hp) (Q:VK):Prop
 |mk (x:_) (c:_) (T:_) (a:xs=[x,.ty c]) (b:Xx c=true) (d:JK H x T) (e:Q (.bl (U_ T c)) H):Zv xs H Q
def lW:List V->Hp->VK->Prop:=fun a H Q=>Zv a H Q
theorem Nu {pins:List (Addr×Obj)} {σ:St} {H:Hp} {s:Shared} {A:Around} {E:Value->Shared->Prop} {Q:Value->Shared->Prop} {x:V} {u:Value} {T c:String} {b:Bool} (I:Inv X pins σ H s) (d:RelV x u) (ty:JK H x T) (e:PySem.W.kitOne X.K (.type T) (.type c)=some b) (h:∀tk,Q (.bool b) {s with toks:=tk}):
  wpAny (model X.prog X.w) A (call (.builtin "isinstance") [u,.type c]) Q E s:=by
 cases ty with
 |BO=>exact Dp I d .BO e h
 |bl y=>exact Dp I d (.bl y) e h
 |int i=>exact Dp I d (.int i) e h
 |str y=>exact Dp I d (.str y) e h
 |tup f=>exact Dp I d (.tup f) e h
 |@lst a j f=>
  cases(show u=Value.ref a from d)
  obtain⟨_,_,n,_,g⟩:=(show Au X.prog X.w H s.heap a (.lst j)from f.ok I.BS)
  exact PySem.W.kia_one PySem.W.kitx_list I.GB ⟨_,g,rfl⟩ e (fun z=>nomatch z) h
 |@dK a kvs f=>
  cases(show u=Value.ref a from d)
  obtain⟨_,_,l,_,p⟩:=(show Au X.prog X.w H s.heap a (.dK kvs)from f.ok I.BS)
  obtain⟨o,m,q,g,k,_⟩:=p
  exact PySem.W.kia_one PySem.W.kitx_dict I.GB ⟨o,g,k.1⟩ e (fun z=>nomatch z) h
theorem Du:BD X (.builtin "isinstance") lW:=by
 intro pins s f H g i Q I r h
 obtain⟨x,c,T,rfl,b,ty,q⟩:=h
 obtain⟨u,j,rfl,d,a⟩:=vals2 r
 cases a
 exact Nu I d ty (RV ty b) fun e=>⟨.bl _,H,I.tok e,rfl,q⟩
end
open Builtin Builtin.Str
abbrev sgn (x:Str):List Nat:=x.cps.toList
def U':List Nat:=sgn "abcdefghijklmnopqrstuvwxyz"
def Zw (c:Nat):Bool:=decide (c∈U')
theorem JL (x:Str):(sgn x).length=x.length:=by
 show x.cps.toList.length=x.cps.size
 exact Array.length_toList
theorem Bz (x y:Str):sgn (x++y)=sgn x++sgn y:=by
 show(x.cps++y.cps).toList=_
 exact Array.toList_append
theorem Dv (x:Str) (l u:Option Int):sgn (Txt.slice x l u)=QI (sgn x) l u:=Nt x l u
def Nv (l:List Nat):Bool:=decide (1<=l.length)&&decide (l.length<=8)&&l.all Zw
def CB (x:Str):Bool:=Nv (sgn x)
theorem Zx (n d k:Nat):HT.GC n d (some (k:Int))=min k n:=by
 show(if(k:Int)<0 then((k:Int)+(n:Int)).toNat else min (k:Int).toNat n)=min k n
 rw[if_neg (by lia),Int.toNat_natCast]
theorem MV (l:List Nat) (k:Nat):QI l none (some (k:Int))=l.take k:=by
 unfold QI
 have e:=Zx l.length l.length k
 rw[e]
 show(l.drop 0).take (min k l.length-0)=_
 rw[List.drop_zero,Nat.sub_zero,List.take_eq_take_min]
 simp
theorem VA (l:List Nat) (k:Nat):QI l (some (k:Int)) none=l.drop k:=by
 unfold QI
 have e:=Zx l.length 0 k
 rw[e]
 show(l.drop (min k l.length)).take (l.length-min k l.length)=_
 have:(l.drop (min k l.length)).length=l.length-min k l.length:=List.length_drop
 rw[<-this,List.take_length]
 by_cases h:k<=l.length
 ·rw[Nat.min_eq_left h]
 ·rw[Nat.min_eq_right (by lia),List.drop_eq_nil_of_le (by lia),List.drop_eq_nil_of_le (by lia)]
theorem Nw {l:List Nat} {p:Nat->Bool} (h:l.all p=true) (k:Nat):(l.take k).all p=true:=by
 rw[List.all_eq_true]at h⊢
 exact fun x a=>h x (List.mem_of_mem_take a)
theorem VB {l:List Nat} {p:Nat->Bool} (h:l.all p=true) (k:Nat):(l.drop k).all p=true:=by
 rw[List.all_eq_true]at h⊢
 exact fun x a=>h x (List.mem_of_mem_drop a)
theorem QL {c:Nat} (h:c∈U'):Zw c=true:=decide_eq_true h
theorem Nx {l:List Nat} (a:1<=l.length) (b:l.length<=8) (c:l.all Zw=true):Nv l=true:=by
 unfold Nv
 simp only[Bool.and_eq_true,decide_eq_true_eq]
 exact⟨⟨a,b⟩,c⟩
inductive Dc where
 |leaf (v:V)
 |row (a:Addr) (xs:List Dc)
 |tab (a:Addr) (ks:List Str) (xs:List Dc)
namespace Dc
def val:Dc->V
 |leaf v=>v
 |row a _=>.ref a
 |tab a _ _=>.ref a
mutual
def addrs:Dc->List Addr
 |leaf _=>[]
 |row a xs=>a::Ay xs
 |tab a _ xs=>a::Ay xs
def Ay:List Dc->List Addr
 |[]=>[]
 |x::r=>addrs x++Ay r
end
mutual
def size:Dc->Nat
 |leaf _=>1
 |row _ xs=>1+AJ xs
 |tab _ _ xs=>1+AJ xs
def AJ:List Dc->Nat
 |[]=>0
 |x::r=>size x+AJ r
end
def Lf (v:V):Prop:=(∃i,v=.int i)∨∃x:Str,v=.str x/\x.length<=100
def kvs (ks:List Str) (xs:List Dc):List (Key×V):=(ks.zip (xs.map val)).map fun p=>(Sum.inr p.1,p.2)
mutual
def At (H:Hp):Dc->Prop
 |leaf v=>Lf v
 |row a xs=>Rd H a (.lst (xs.map val))/\Gw H xs
 |tab a ks xs=>Rd H a (.dK (kvs ks xs))/\ks.length=xs.length/\ks.Nodup/\Gw H xs
def Gw (H:Hp):List Dc->Prop
 |[]=>True
 |x::r=>At H x/\Gw H r
end
mutual
def put (b:Addr) (i:Nat) (k:Str) (p:Dc):Dc->Dc
 |leaf v=>leaf v
 |row a xs=>if a=b then row a (xs.take i++p::xs.drop i)else row a (putL b i k p xs)
 |tab a ks xs=>if a=b then tab a (ks++[k]) (xs++[p])else tab a ks (putL b i k p xs)
def putL (b:Addr) (i:Nat) (k:Str) (p:Dc):List Dc->List Dc
 |[]=>[]
 |x::r=>put b i k p x::putL b i k p r
end
theorem size_pos (d:Dc):1<=d.size:=by
 cases d<;>simp only[size]<;>lia
theorem CJ:∀xs ys:List Dc,Ay (xs++ys)=Ay xs++Ay ys
 |[],_=>rfl
 |x::r,ys=>by simp only[List.cons_append,Ay,CJ r ys,List.append_assoc]
theorem Am:∀xs ys:List Dc,AJ (xs++ys)=AJ xs+AJ ys
 |[],ys=>by simp[AJ]
 |x::r,ys=>by simp only[List.cons_append,AJ,Am r ys];lia
theorem EO {H:Hp}:∀xs ys:List Dc,Gw H (xs++ys)↔Gw H xs/\Gw H ys
 |[],ys=>by simp[Gw]
 |x::r,ys=>by simp only[List.cons_append,Gw,EO r ys,and_assoc]
theorem FN {H:Hp}:∀{xs:List Dc},Gw H xs->∀x∈xs,At H x
 |[],_,x,a=>nomatch a
 |y::r,h,x,a=>by
  simp only[Gw]at h
  rcases List.mem_cons.mp a with rfl|a
  ·exact h.1
  ·exact FN h.2 x a
mutual
theorem JM {H e:Hp}:∀d:Dc,(∀a∈d.addrs,∀o,H a=some o->e a=some o)->d.At H->d.At e
 |leaf v,_,h=>h
 |row a xs,f,h=>by
  simp only[At]at h⊢
  exact⟨h.1.up (f a (by simp[addrs])),Dw xs (fun c b=>f c (by simp only[addrs];exact List.mem_cons_of_mem _ b)) h.2⟩
 |tab a ks xs,f,h=>by
  simp only[At]at h⊢
  exact⟨h.1.up (f a (by simp[addrs])),h.2.1,h.2.2.1,Dw xs (fun c b=>f c (by simp only[addrs];exact List.mem_cons_of_mem _ b)) h.2.2.2⟩
theorem Dw {H d:Hp}:∀xs:List Dc,(∀a∈Ay xs,∀o,H a=some o->d a=some o)->Gw H xs->Gw d xs
 |[],_,h=>h
 |x::r,f,h=>by
  simp only[Gw]at h⊢
  exact⟨JM x (fun c b=>f c (by simp only[Ay];exact List.mem_append_left _ b)) h.1,Dw r (fun c b=>f c (by simp only[Ay];exact List.mem_append_right _ b)) h.2⟩
end
theorem RW {H b:Hp} {d:Dc} (s:AG H b) (h:d.At H):d.At b:=JM d (fun a _ o e=>s a o e) h
theorem JN {ks:List Str} {xs:List Dc} (h:ks.length=xs.length):(kvs ks xs).map (·.1)=ks.map Sum.inr:=by
 unfold kvs
 rw[List.map_map]
 have:(fun p:Str×V=>(Sum.inr p.1:Key))=(Sum.inr:Str->Key)∘Prod.fst:=rfl
 show List.map ((fun p:Key×V=>p.1)∘fun p:Str×V=>(Sum.inr p.1,p.2)) (ks.zip (xs.map val))=_
 have e:((fun p:Key×V=>p.1)∘fun p:Str×V=>((Sum.inr p.1:Key),p.2))=(Sum.inr:Str->Key)∘Prod.fst:=rfl
 rw[e,<-List.map_map,List.map_fst_zip (by rw[List.length_map];lia)]
mutual
theorem S_ {H:Hp} {b:Addr}:∀d:Dc,d.At H->b∈d.addrs->(∃vs,Rd H b (.lst vs)/\vs.length<d.size)∨∃ks:List Str,∃f,Rd H b (.dK f)/\f.map (·.1)=ks.map Sum.inr/\f.length<d.size
 |leaf v,_,h=>by simp[addrs]at h
 |row a xs,h,c=>by
  simp only[At]at h
  simp only[addrs,List.mem_cons]at c
  simp only[size]
  rcases c with rfl|c
  ·refine .inl ⟨_,h.1,?_⟩
   rw[List.length_map]
   have:=CV xs
   lia
  ·rcases Fu xs h.2 c with⟨vs,e,l⟩|⟨ks,f,e,z,l⟩
   ·exact .inl ⟨vs,e,by lia⟩
   ·exact .inr ⟨ks,f,e,z,by lia⟩
 |tab a ks xs,h,c=>by
  simp only[At]at h
  simp only[addrs,List.mem_cons]at c
  simp only[size]
  rcases c with rfl|c
  ·refine .inr ⟨ks,_,h.1,JN h.2.1,?_⟩
   have e:(kvs ks xs).length=ks.length:=by
    have:=congrArg List.length (JN (ks:=ks) (xs:=xs) h.2.1)
    simpa using this
   rw[e,h.2.1]
   have:=CV xs
   lia
  ·rcases Fu xs h.2.2.2 c with⟨vs,e,l⟩|⟨ks,f,e,z,l⟩
   ·exact .inl ⟨vs,e,by lia⟩
   ·exact .inr ⟨ks,f,e,z,by lia⟩
theorem Fu {H:Hp} {b:Addr}:∀xs:List Dc,Gw H xs->b∈Ay xs->(∃vs,Rd H b (.lst vs)/\vs.length<AJ xs)∨∃ks:List Str,∃a,Rd H b (.dK a)/\a.map (·.1)=ks.map Sum.inr/\a.length<AJ xs
 |[],_,h=>by simp[Ay]at h
 |x::r,h,c=>by
  simp only[Gw]at h
  simp only[Ay,List.mem_append]at c
  simp only[AJ]
  rcases c with c|c
  ·rcases S_ x h.1 c with⟨vs,e,l⟩|⟨ks,a,e,z,l⟩
   ·exact .inl ⟨vs,e,by lia⟩
   ·exact .inr ⟨ks,a,e,z,by lia⟩
  ·rcases Fu r h.2 c with⟨vs,e,l⟩|⟨ks,a,e,z,l⟩
   ·exact .inl ⟨vs,e,by lia⟩
   ·exact .inr ⟨ks,a,e,z,by lia⟩
theorem CV:∀xs:List Dc,xs.length<=AJ xs
 |[]=>Nat.le_refl _
 |x::r=>by
  have:=CV r
  have:=size_pos x
  simp only[AJ,List.length_cons]
  lia
end
end Dc
section
variable{X:Cx}
inductive LJ (K:ADv) (x:V) (y:V) (H:Hp) (Q:VK):Prop
 |mk (a:Addr) (b:Addr) (xs:List V) (c:x=.ref a) (d:y=.ref b) (e:Ap K H a xs) (f:Ap K H b []) (g:Q (.bl xs.isEmpty) H):LJ K x y H Q
def VC (K:ADv):V->V->Hp->VK->Prop:=fun x y H Q=>LJ K x y H Q
theorem bR (c:X.A.units<cLine):DC X (compareOp .Eq) (VC X.K):=by
 intro pins s w H x y v u Q I k l h
 obtain⟨a,b,m,rfl,rfl,n,o,q⟩:=h
 cases k
 cases l
 obtain⟨p,d,f,_⟩:=I.list n
 obtain⟨g,r,i,_⟩:=I.list o
 cases r
 have l1:=d.length
 cases m with
 |nil=>
  cases d
  exact SeqAt.eq_listAt (e:=fun _=>true) f.isList i.isList rfl c (fun j t _=>absurd t (by simp)) ⟨.bl true,H,I,rfl,q⟩
 |cons z B=>
  refine SeqAt.eq_list_lengthsAt f.isList i.isList ?_ c ⟨.bl false,H,I,rfl,q⟩
  rw[List.size_toArray,<-l1]
  simp
inductive LK (K:ADv) (x:V) (y:V) (H:Hp) (Q:VK):Prop
 |mk (a:Addr) (b:Addr) (xs:List V) (c:x=.ref a) (d:y=.ref b) (e:Ap K H a xs) (f:Ap K H b []) (g:Q (.bl (!xs.isEmpty)) H):LK K x y H Q
def VD (K:ADv):V->V->Hp->VK->Prop:=fun x y H Q=>LK K x y H Q
theorem HR (c:X.A.units<cLine):DC X (compareOp .NotEq) (VD X.K):=by
 intro pins s w H x y v u Q I k l h
 obtain⟨a,b,m,rfl,rfl,n,o,q⟩:=h
 cases k
 cases l
 obtain⟨p,d,f,_⟩:=I.list n
 obtain⟨g,r,i,_⟩:=I.list o
 cases r
 have l1:=d.length
 cases m with
 |nil=>
  cases d
  exact SeqAt.RcNeAt.lists (e:=fun _=>true) f.isList i.isList rfl c (fun j t _=>absurd t (by simp)) _ _ _ _ ⟨.bl false,H,I,rfl,q⟩
 |cons z B=>
  refine SeqAt.RcNeAt.lists_lengths f.isList i.isList ?_ c _ _ _ _ ⟨.bl true,H,I,rfl,q⟩
  rw[List.size_toArray,<-l1]
  simp
def Kl (xs ys:List V):Bool:=((List.range (min xs.length ys.length)).all fun j=>MN (xs.getD j .BO) (ys.getD j .BO))&&xs.length==ys.length
inductive TB (K:ADv) (x:V) (y:V) (H:Hp) (Q:VK):Prop
 |mk (a:Addr) (b:Addr) (xs:List V) (ys:List V) (c:x=.ref a) (d:y=.ref b) (e:BY K H a xs) (f:BY K H b ys) (g:(∀z∈xs,CI z=true)) (h:(∀z∈ys,CI z=true)) (i:Q (.bl (Kl xs ys)) H):TB K x y H Q
theorem JO {pins:List (Addr×Obj)} {σ:St} {H:Hp} {s:Shared} {A:Around} {E:Value->Shared->Prop} {Q:Value->Shared->Prop} {x:V} {u:Value} {T:String} {l:Addr} {m:Option Addr} {its:List Value} {n:Nat} {sl:Array (Option Value)} {b:Bool}
  (I:Inv X pins σ H s) (d:RelV x u) (ty:JK H x T) (c:s.heap.get? l=some ⟨.type "tuple",m,.seq its.toArray n,sl⟩) (e:PySem.W.kitAny X.K (.type T) its=some b) (h:∀tk,Q (.bool b) {s with toks:=tk}):
  wpAny (model X.prog X.w) A (call (.builtin "isinstance") [u,.ref l]) Q E s:=by
 cases ty with
 |BO=>cases(show u=Value.none from d);exact PySem.W.kia_tup PySem.W.kitx_none I.GB True.intro c e (fun z=>nomatch z) h
 |bl y=>cases(show u=Value.bool y from d);exact PySem.W.kia_tup PySem.W.kitx_bool I.GB True.intro c e (fun z=>nomatch z) h
 |int i=>obtain⟨t,q⟩:=(show∃t,u=Value.int i t from d);cases q;exact PySem.W.kia_tup PySem.W.kitx_int I.GB True.intro c e (fun z=>nomatch z) h
 |str y=>obtain⟨t,q⟩:=(show∃t,u=Value.str y t from d);cases q;exact PySem.W.kia_tup PySem.W.kitx_str I.GB True.intro c e (fun z=>nomatch z) h
 |@lst a j f=>
  cases(show u=Value.ref a from d)
  obtain⟨_,_,n,_,g⟩:=(show Au X.prog X.w H s.heap a (.lst j)from f.ok I.BS)
  exact PySem.W.kia_tup PySem.W.kitx_list I.GB ⟨_,g,rfl⟩ c e (fun z=>nomatch z) h
 |@tup a j f=>
  cases(show u=Value.ref a from d)
  obtain⟨_,_,_,p⟩:=(show Au X.prog X.w H s.heap a (.tup j)from I.BS a _ f)
  obtain⟨o,g,k,_⟩:=p
  exact PySem.W.kia_tup PySem.W.kitx_tuple I.GB ⟨o,g,k⟩ c e (fun z=>nomatch z) h
 |@dK a kvs f=>
  cases(show u=Value.ref a from d)
  obtain⟨_,_,r,_,p⟩:=(show Au X.prog X.w H s.heap a (.dK kvs)from f.ok I.BS)
  obtain⟨o,v,B,g,k,_⟩:=p
  exact PySem.W.kia_tup PySem.W.kitx_dict I.GB ⟨o,g,k.1⟩ c e (fun z=>nomatch z) h
def VE (T:String):Bool:=T=="list"||T=="dict"
theorem bS {K:ADv} {H:Hp} {v:V} {T:String} (h:JK H v T):PySem.W.kitAny K (.type T) [.type "list",.type "dict"]=some (VE T):=by
 cases h<;>kernel_rfl
inductive Fn (xs:List V) (H:Hp) (Q:VK):Prop
 |mk (x:V) (p:Addr) (T:String) (a:xs=[x,.ref p]) (b:H p=some (.tup [.ty "list",.ty "dict"])) (c:JK H x T) (d:Q (.bl (VE T)) H):Fn xs H Q
def MW:List V->Hp->VK->Prop:=fun a H Q=>Fn a H Q
theorem QM:BD X (.builtin "isinstance") MW:=by
 intro pins s v H w y Q I r h
 obtain⟨x,p,T,rfl,e,ty,q⟩:=h
 obtain⟨u,z,rfl,f,a⟩:=vals2 r
 cases a
 obtain⟨g,i,j,_⟩:=I.tuple (BY.of e)
 obtain⟨⟨k,A,data,B⟩,l,c,n,d⟩:=id j
 simp only at c d
 subst c d
 cases i with
 |cons m b=>
  cases b with
  |cons o b=>
   cases b
   cases m
   cases o
   exact JO I f ty l (bS ty) fun t=>⟨.bl _,H,I.tok t,rfl,q⟩
theorem TC {w:World} {P:Program} {vs:List (Key×Value)} {ss:List Str} (b:vs.map (·.1)=ss.map Sum.inr) {ws:List Value} (hl:ws.length=vs.length)
  (g:∀(j:Nat) (v:Value),ws[j]?=some v->∃k x,vs[j]?=some (k,x)/\(An P w).is k v=true):StrsAre ws ss:=by
 induction ss generalizing vs ws with
 |nil=>
  have:vs=[]:=by cases vs with|nil=>rfl|cons a r=>simp at b
  subst this
  have:ws=[]:=List.eq_nil_of_length_eq_zero hl
  subst this
  exact .nil
 |cons x r h=>
  cases vs with
  |nil=>simp at b
  |cons a vs=>
   simp only[List.map_cons,List.cons.injEq]at b
   cases ws with
   |nil=>simp at hl
   |cons u ws=>
    obtain⟨k,y,e,c⟩:=g 0 u rfl
    have e:a=(k,y):=by simpa using e
    subst e
    have d:k=Sum.inr x:=b.1
    subst d
    have c:Ir (Sum.inr x) u=true:=c
    rcases BR c with⟨i,t,f,_⟩|⟨z,t,f,l⟩
    ·cases f
    ·cases f
     subst l
     exact .cons _ t (h b.2 (by simpa using hl) fun j v m=>g (j+1) v (by simpa using m))
theorem HS {us:List Value} {ys:List Str} (h:StrsAre us ys):Vals (ys.map V.str) us:=by
 induction h with
 |nil=>exact .nil
 |cons n t _ a=>exact .cons ⟨t,rfl⟩ a
inductive Ei (xs:List V) (H:Hp) (Q:VK):Prop
 |mk (d:Addr) (b:List (Key×V)) (ss:List Str) (e:xs=[.ref d]) (f:Rd H d (.dK b)) (g:b.map (·.1)=ss.map Sum.inr) (h:b.length<64) (i:∀(p:Addr) (a:List Str) (c:Hp),H p=none->AG H c->c p=some (.lst (a.map V.str))->a.Perm ss->sortedS a=true->Q (.ref p) c):Ei xs H Q
def JP:List V->Hp->VK->Prop:=fun a H Q=>Ei a H Q
theorem ER (T:X.calm=true):BD X (.builtin "sorted") JP:=by
 intro pins s σ H xs us Q I r h
 obtain⟨d,U,F,rfl,hd,G,p,q⟩:=h
 obtain⟨u,rfl,Y⟩:=vals1 r
 cases Y
 obtain⟨z,Z,k,l,dd⟩:=Eh I.BS hd
 have t:X.A.in1.handled=none:=I.ok.hd T
 have n:k.length=U.length:=l.length.symm
 have x:k.map (·.1)=F.map Sum.inr:=by rw[<-G];exact(KV.keys l).symm
 obtain⟨ep,y⟩:=dd.dictAt
 have J:k.length<=sizeLine:=by rw[n];exact z
 refine Calls.call_function_entry kind_sorted plain_sorted entry_sorted (args_sorted1 _) ?_
 unfold Builtin.«sorted»
 refine wpAny_bind (m:=checkCount "sorted" 1 1 _) (wpAny_pure (wpAny_bind (PySem.W.kdu_collect (PySem.W.kdl_dict (knd:=An X.prog X.w) (kvs:=k) (ep:=ep) Z) t y J fun c K a keep items=>?_)))
 have B:a.toList.length=k.length:=by rw[Array.length_toList];exact items.1
 have C:StrsAre a.toList F:=TC (P:=X.prog) (w:=X.w) x B fun j v e=>items.2 j v (by rw[<-Array.getElem?_toList];exact e)
 refine wpAny_bind (wpAny_newList ?_ (by rw[B];exact J))
 have f:(c.push {cls:=.type "list",data:=.seq a.toList.toArray}).get? c.objs.size=some (seqObj "list" a.toList.toArray 0):=Heap.get?_push_size _ rfl
 refine wpAny_bind (wpAny_holding (wpAny_call_entry slot_list_sort ⟨_,f,rfl⟩ entry_list_sort (list_sort_treeK strKind_oneLt f C.keysOf (fun L M rest e=>keyKind_strs (by rw[<-e];exact C)) (by rw[B,n];exact p) fun g a1 a2=>⟨_,rfl,?_⟩) (args_list_sort _)))
 obtain⟨i,b1,N,b3⟩:=sorted_out_str C a1 a2
 obtain⟨ee,he⟩:=sortedHeap_at (out:=(arrOf g).map (·.2)) f
 refine wpAny_pure ⟨_,rfl,?_⟩
 have D:(c.push {cls:=.type "list",data:=.seq a.toList.toArray}).objs.size=c.objs.size+1:=size_push' ..
 have O:=I.kept (t':=K) keep
 have k2:∀b o,c.get? b=some o->(sortedHeap (c.push {cls:=.type "list",data:=.seq a.toList.toArray}) c.objs.size a.toList ((arrOf g).map (·.2))).get? b=some o:=fun b o e=>by
  have R:b<c.objs.size:=Heap.lt_size e
  rw[sortedHeap_old (Nat.ne_of_lt R) (by rw[D];exact Nat.lt_succ_of_lt R)]
  exact Heap.get?_push_of_some _ e
 have E:i.length<=sizeLine:=by
  rw[N.length_eq]
  have:=congrArg List.length G
  rw[List.length_map,List.length_map]at this
  rw[<-this]
  exact z
 have new:Au X.prog X.w (upd H c.objs.size (.lst (i.map V.str))) (sortedHeap (c.push {cls:=.type "list",data:=.seq a.toList.toArray}) c.objs.size a.toList ((arrOf g).map (·.2))) c.objs.size (.lst (i.map V.str)):=
  ⟨by rw[List.length_map];exact E,((arrOf g).map (·.2)).toList,ee,HS b1,by rw[Array.toArray_toList];exact he⟩
 have S:H c.objs.size=none:=O.fresh
 exact⟨.ref c.objs.size,_,O.laid (t':=K) k2 (Nat.le_refl _) new,rfl,q _ i _ S (AG.new S) AE N b3⟩
end
structure Txt (mg:Str->Option Value):Prop where
 isinstance:mg "isinstance"=none
 int:mg "int"=none
 bool:mg "bool"=none
 str:mg "str"=none
 list:mg "list"=none
 dict:mg "dict"=none
 tuple:mg "tuple"=none
 len:mg "len"=none
 range:mg "range"=none
 max:mg "max"=none
 min:mg "min"=none
 sorted:mg "sorted"=none
 all:mg "all"=none
 any:mg "any"=none
 reversed:mg "reversed"=none
 ValueError:mg "ValueError"=none
 sum:mg "sum"=none
theorem AW:bootBuiltins "isinstance"=some (.builtin "isinstance"):=by decide+kernel
theorem Zy:bootBuiltins "int"=some (.type "int"):=by decide+kernel
theorem VF:bootBuiltins "bool"=some (.type "bool"):=by decide+kernel
theorem fx:bootBuiltins "str"=some (.type "str"):=by decide+kernel
theorem Bv:bootBuiltins "list"=some (.type "list"):=by decide+kernel
theorem Co:bootBuiltins "dict"=some (.type "dict"):=by decide+kernel
theorem Ig:bootBuiltins "tuple"=some (.type "tuple"):=by decide+kernel
theorem Ey:bootBuiltins "sorted"=some (.builtin "sorted"):=by decide+kernel
theorem VG:bootBuiltins "all"=some (.builtin "all"):=by decide+kernel
theorem fy:bootBuiltins "any"=some (.builtin "any"):=by decide+kernel
theorem Aj {c:Bool} {A B:Prop} (a:c=false) (h:B):if c=true then A else B:=by
 rw[a]
 exact BJ h
theorem BK {c:Bool} {A B:Prop} (a:c=true) (h:A):if c=true then A else B:=by
 rw[a]
 exact Bs h
theorem GQ {b:Type} {xs:List b} {i:Int} (c:0<=i) (d:i<(xs.length:Int)):∃v,Na xs i=some v/\v∈xs:=by
 obtain⟨n,rfl⟩:=Int.eq_ofNat_of_zero_le c
 have a:n<xs.length:=by lia
 exact⟨xs[n],Aq (ADr a),List.getElem_mem a⟩
inductive vZ (P:Program) (w:World) (K:ADv) (mg:Str->Option Value) (base:Heap) (x:Str) (ps:List Str) (n:Nat) (sp:Sp):Prop
 |mk (f:Addr) (a:FuncData) (k:PySem.W.keepIn K (.ref f)=true) (b:Binds K a ps []) (m:mg x=some (.ref f)) (G:BG P w K mg base CW n f a ps sp):vZ P w K mg base x ps n sp
structure Df (P:Program) (w:World) (K:ADv) (mg:Str->Option Value) (base:Heap) (x:Str) (ps:List Str) (n:Nat) (sp:Sp):Prop where
 ex:vZ P w K mg base x ps n sp
theorem Df.mk' {P:Program} {w:World} {K:ADv} {mg:Str->Option Value} {base:Heap} {x q:Str} {st:Stmt} {ps:List Str} {n:Nat} {sp:Sp} {f:Addr} {a:FuncData} (F:Ct K x q st f a) (b:Binds K a ps []) (m:mg x=some (.ref f)) (G:BG P w K mg base CW n f a ps sp):Df P w K mg base x ps n sp:=⟨⟨f,a,F.kp,b,m,G⟩⟩
theorem Dx (r:Int) {n:Int} (h:0<n):0<=r % n/\r % n<n:=⟨Int.emod_nonneg _ (by lia),Int.emod_lt_of_pos _ h⟩
def yg (b:Addr) (H c:Hp):Prop:=∀a o,a≠b->H a=some o->c a=some o
def lX (x:Str):Bool:=decide (x.length<=12)&&(sgn x).all Zw
def RX (v:V):Prop:=(∃i:Int,v=.int i/\i.natAbs<2 ^ 400)∨∃x:Str,v=.str x/\lX x=true
namespace Dc
mutual
def ok:Dc->Prop
 |leaf v=>RX v
 |row _ xs=>HU xs
 |tab _ ks xs=>(∀k∈ks,CB k=true)/\HU xs
def HU:List Dc->Prop
 |[]=>True
 |x::r=>ok x/\HU r
end
mutual
def named (N:List Str):Dc->Prop
 |leaf _=>True
 |row _ xs=>QN N xs
 |tab _ ks xs=>(∀k∈ks,k∈N)/\QN N xs
def QN (N:List Str):List Dc->Prop
 |[]=>True
 |x::r=>named N x/\QN N r
end
def lY:Dc->Prop
 |leaf v=>RX v
 |row _ xs=>xs=[]
 |tab _ ks xs=>ks=[]/\xs=[]
def XX:Dc->String
 |leaf (.int _)=>"int"
 |leaf _=>"str"
 |row _ _=>"list"
 |tab _ _ _=>"dict"
theorem Zz {H:Hp} {d:Dc} (h:d.At H):JK H d.val d.XX:=by
 cases d with
 |leaf v=>
  rcases(show Lf v from h)with⟨i,rfl⟩|⟨x,rfl,_⟩
  ·exact .int i
  ·exact .str x
 |row a b=>simp only[At]at h;exact .lst h.1
 |tab a c b=>simp only[At]at h;exact .dK h.1
def sub:Dc->List V->Option Dc
 |d,[]=>some d
 |row _ xs,.int i::r=>if 0<=i then(xs[i.toNat]?).bind fun x=>sub x r else none
 |tab _ ks xs,.str k::r=>((ks.zip xs).lookup k).bind fun x=>sub x r
 |_,_=>none
def IB (v:V):Prop:=(∃k:Nat,v=.int (k:Int))∨∃x:Str,v=.str x/\CB x=true
theorem Km {ks:List Str} {xs:List Dc} (h:ks.length=xs.length) {k:Str} (a:k∈ks):∃x,(ks.zip xs).lookup k=some x/\x∈xs:=by
 induction ks generalizing xs with
 |nil=>cases a
 |cons y r b=>
  cases xs with
  |nil=>simp at h
  |cons z c=>
   by_cases e:k=y
   ·subst e
    exact⟨z,by simp,List.mem_cons_self⟩
   ·obtain⟨x,d,f⟩:=b (xs:=c) (by simpa using h) ((List.mem_cons.mp a).resolve_left e)
    refine⟨x,?_,List.mem_cons_of_mem _ f⟩
    have:(k==y)=false:=by simpa using e
    simp[List.zip_cons_cons,List.lookup_cons,this,d]
end Dc
abbrev Z_:Str:="abcdefghijklmnopqrstuvwxyz"
theorem MX:Z_.length=26:=by decide+kernel
theorem MY:U'.length=26:=by decide+kernel
theorem QO (i:Int) (b:0<=i) (d:i<26):∃c,Na (sgn Z_) i=some c/\Zw c=true:=by
 obtain⟨n,rfl⟩:=Int.eq_ofNat_of_zero_le b
 have a:n<U'.length:=by rw[MY];lia
 exact⟨U'[n],Aq (ADr a),QL (List.getElem_mem a)⟩
theorem GR (r:Int):0<=r % 26/\r % 26<26:=⟨Int.emod_nonneg _ (by decide),Int.emod_lt_of_pos _ (by decide)⟩
inductive RY (K:ADv) (vs:List V) (H:Hp) (Q:VK) (b:XK):Prop
 |mk (a:Addr) (c:List Int) (k:Nat) (d:vs=[.ref a,.int (k:Int)]) (e:Ap K H a (c.map V.int)) (f:∀r:Int,0<=r->Q (.int r) H):RY K vs H Q b
def QP (K:ADv):Sp:=fun b H Q a=>RY K b H Q a
inductive VH (vs:List V) (H:Hp) (Q:VK) (a:XK):Prop
 |mk (c:Int) (k:Nat) (b:vs=[.int c,.int (k:Int)]) (d:k<=1000) (e:∀r:Int,0<=r->r<2305843009213693951->Q (.int r) H):VH vs H Q a
def Fo:Sp:=fun b H Q a=>VH b H Q a
def VI:Nat->Int->Int
 |0,n=>n
 |k+1,n=>VI k n/1000000
def Ny (c:Int) (k:Nat):Int:=(((c+3)*1181783497276652981 % 2305843009213693951+((k:Int)+1)*614889782588491411) % 2305843009213693951)*(((c+3)*1181783497276652981 % 2305843009213693951+((k:Int)+1)*614889782588491411) % 2305843009213693951) % 999999999999999989
def TF (c:Int) (k:Nat):Int:=if c % 4=0/\4*10 ^ 60<=c then VI k (c/4) % 1000000 else(Ny c k+1)*(Ny c k/1000003+7) % 2305843009213693951/7919
theorem VJ (c:Int) (k:Nat):0<=TF c k/\TF c k<2305843009213693951:=by
 unfold TF
 split
 ·have a:=Int.emod_nonneg (VI k (c/4)) (show(1000000:Int)≠0 by decide)
  have b:=Int.emod_lt_of_pos (VI k (c/4)) (show(0:Int)<1000000 by decide)
  lia
 ·have a:=Int.emod_nonneg ((Ny c k+1)*(Ny c k/1000003+7)) (show(2305843009213693951:Int)≠0 by decide)
  have b:=Int.emod_lt_of_pos ((Ny c k+1)*(Ny c k/1000003+7)) (show(0:Int)<2305843009213693951 by decide)
  lia
inductive RZ (vs:List V) (H:Hp) (Q:VK) (a:XK):Prop
 |mk (c:Int) (k:Nat) (b:vs=[.int c,.int (k:Int)]) (d:k<=1000) (e:Q (.int (TF c k)) H):RZ vs H Q a
def VL:Sp:=fun b H Q a=>RZ b H Q a
theorem VM {vs:List V} {H:Hp} {Q:VK} {E:XK} (h:Fo vs H Q E):VL vs H Q E:=by
 obtain⟨c,k,e,a,q⟩:=h
 exact⟨c,k,e,a,q _ (VJ c k).1 (VJ c k).2⟩
theorem Nz {ys:List Str} (P:Nat->Str->Prop) (h:∀(j:Nat) y,ys[j]?=some y->P j y) (inj:∀(i j:Nat) y,i<j->j<ys.length->P i y->P j y->False):ys.Nodup:=by
 refine List.pairwise_iff_getElem.mpr fun i j d b a e=>?_
 have f:=h i _ (ADr d)
 have c:=h j _ (ADr b)
 rw[<-e]at c
 exact inj i j _ a b f c
inductive VN (vs:List V) (H:Hp) (Q:VK) (a:XK):Prop
 |mk (c:Int) (d:Int) (e:vs=[.int c,.int d]) (f:∀(p:Addr) (ys:List Str) (b:Hp),AG H b->H p=none->b p=some (.lst (ys.map V.str))->ys.length=6->ys.Nodup->(∀y∈ys,CB y=true)->Q (.ref p) b):VN vs H Q a
inductive Xy (vs:List V) (H:Hp) (Q:VK) (a:XK):Prop
 |mk (c:Int) (d:vs=[.int c]) (e:∀v b,RX v->AG H b->Q v b):Xy vs H Q a
inductive Xz (vs:List V) (H:Hp) (Q:VK) (e:XK):Prop
 |mk (c:Int) (d:Int) (m:Int) (f:vs=[.int c,.int d,.int m]) (g:∀(p:Dc) (b:Hp),AG H b->p.At b->p.lY->(∀a∈p.addrs,∀o u,b a≠some (.CK o u))->(∀a∈p.addrs,H a=none)->Q p.val b):Xz vs H Q e
def bT (N:List Str) (b:Addr) (y:V) (H d:Hp):Prop:=
 (∃a i,H b=some (.lst a)/\d b=some (.lst (a.take i++y::a.drop i)))∨∃c k,H b=some (.dK c)/\(Sum.inr k:Key)∉c.map (·.1)/\(CB k=true/\k∈N)/\d b=some (.dK (c++[(Sum.inr k,y)]))
inductive X_ (K:ADv) (vs:List V) (H:Hp) (Q:VK) (d:XK):Prop
 |mk (b:Addr) (n:Addr) (y:V) (ys:List Str) (c:Int) (f:vs=[.ref b,y,.ref n,.int c]) (g:0<=c) (h:Ap K H n (ys.map V.str)) (i:ys.length<=100) (j:(∀y∈ys,CB y=true)) (k:((∃vs,H b=some (.lst vs)/\vs.length<=1000)∨∃e,H b=some (.dK e)/\e.length<=1000)) (l:(∀a,yg b H a->bT ys b y H a->Q (.bl true) a)) (m:∀a,AG H a->Q (.bl false) a):X_ K vs H Q d
structure Made (H H':Hp) (d:Dc):Prop where
 same:AG H H'
 at_:d.At H'
 ok:d.ok
 nd:d.addrs.Nodup
 own:∀a∈d.addrs,∀o u,H' a≠some (.CK o u)
 new:∀a∈d.addrs,H a=none
inductive bU (K:ADv) (vs:List V) (H:Hp) (Q:VK) (b:XK):Prop
 |mk (a:Addr) (n:Addr) (e:List Int) (k:Nat) (ys:List Str) (f:vs=[.ref a,.int (k:Int),.ref n]) (g:Ap K H a (e.map V.int)) (h:e.length<=63) (i:k<=1000) (j:H n=some (.lst (ys.map V.str))) (l:ys.length<=100) (m:(∀y∈ys,CB y=true)) (o:∀(t:Addr) (d:Dc) (c:Hp),Made H c d->c t=some (.tup [d.val,.int (d.size:Int)])->d.size<=40->(ys≠[]->d.named ys)->Q (.ref t) c):bU K vs H Q b
inductive X' (K:ADv) (vs:List V) (H:Hp) (Q:VK) (b:XK):Prop
 |mk (a:Addr) (n:Addr) (e:List Int) (k:Nat) (ys:List Str) (f:vs=[.ref a,.int (k:Int),.ref n]) (g:Ap K H a (e.map V.int)) (h:e.length<=63) (i:k<=1000) (j:H n=some (.lst (ys.map V.str))) (l:ys.length<=100) (m:(∀y∈ys,CB y=true)) (o:∀(t:Addr) (d:Dc) (c:Hp),Made H c d->c t=some (.tup [d.val,.int (d.size:Int)])->d.size<=24->(ys≠[]->d.named ys)->Q (.ref t) c):X' K vs H Q b
inductive VO (K:ADv) (vs:List V) (H:Hp) (Q:VK) (b:XK):Prop
 |mk (a:Addr) (c:List Int) (e:vs=[.ref a]) (f:Ap K H a (c.map V.int)) (g:c.length<=63) (h:∀d,Q (.bl true) d):VO K vs H Q b
def N_ (K:ADv):Sp:=fun b H Q a=>VO K b H Q a
theorem Ab {n:Nat} (h:n<=1000):n<=sizeLine:=Nat.le_of_lt (BV h)
theorem Ax {x y:V}:[x,y].length<=sizeLine:=Ab (show 2<=1000 by decide)
theorem Bf {x:V}:[x].length<=sizeLine:=Ab (show 1<=1000 by decide)
theorem JQ {P:Program} {w:World} {K:ADv} {mg:Str->Option Value} {base:Heap} {f:Addr} {b:FuncData} {ps:List Str} {sp:Sp} (a:∀vs H Q E,¬sp vs H Q E):BG P w K mg base CW 0 f b ps sp:=
 ⟨fun vs H Q E h=>absurd h (a vs H Q E),fun A outer s H args c vs Q E _ _ _ _ h=>absurd h (a vs H Q E)⟩
theorem VP {t u:TS} {D:Ends} {σ:St} {H:Hp} (R:Hp->Prop) (k:∀a,R a->u D σ a) (h:(∀a,R a->u D σ a)->t {D with nx:=u D} σ H):Pp t u D σ H:=h k
structure lZ (H Hi:Hp) (d:Dc) (L:Addr) (ts:List Addr):Prop where
 made:Made H Hi d
 nL:H L=none
 eL:Hi L=some (.lst (ts.map V.ref))
 out:L∉d.addrs
 hold:∀t∈ts,∃b k,Hi t=some (.tup [.ref b,.int k])/\b∈d.addrs
namespace Dc
mutual
def slim:Dc->Prop
 |leaf _=>True
 |row _ xs=>JR xs
 |tab _ _ xs=>xs.length<64/\JR xs
def JR:List Dc->Prop
 |[]=>True
 |x::r=>slim x/\JR r
end
theorem HV:∀{xs:List Dc},JR xs->∀x∈xs,slim x
 |[],_,x,a=>nomatch a
 |y::r,h,x,a=>by
  simp only[JR]at h
  rcases List.mem_cons.mp a with rfl|a
  ·exact h.1
  ·exact HV h.2 x a
def yh (ks:List Str) (xs:List Dc) (k:Str):Nat:=(((ks.zip xs).lookup k).map size).getD 0
end Dc
section
variable{X:Cx} {pins:List (Addr×Obj)} {σ:St} {H:Hp} {s:Shared} {a:Addr} {kvs:List (Key×V)}
theorem Inv.freeze (I:Inv X pins σ H s) (e:H a=some (.dK kvs)):∃o,s.heap.get? a=some o/\Inv X pins σ (upd H a (.CK o (.dK kvs))) s:=by
 have ok:=(show Au X.prog X.w H s.heap a (.dK kvs)from I.BS a _ e)
 obtain⟨z,g,h,i,o,j,k,f,r⟩:=id ok
 refine⟨o,f,?_⟩
 have c:∀b u,H b=some u->u≠.dK kvs->b≠a:=fun b u q n w=>by
  subst w
  rw[e]at q
  exact n (ADt q).symm
 have un:Un X.fs [] H (upd H a (.CK o (.dK kvs))) s.heap s.heap:=
  ⟨fun b d q _ _ _=>q,fun b d q _ _ _=>⟨d.slots,q⟩,fun b d q n _=>by rw[AK (fun w=>by subst w;rw[e]at n;cases n)];exact n,fun b d q _=>⟨d,q⟩,
   fun b l q=>by rw[AK (c b _ q (by intro z;cases z))];exact q,fun b d u q=>by rw[AK (c b _ q (by intro z;cases z))];exact q,fun b m q=>⟨#[],by rw[AK (c b _ q (by intro z;cases z)),q];simp⟩⟩
 have BS:Fj X.prog X.w (upd H a (.CK o (.dK kvs))) s.heap:=I.BS.write (by rw[e];trivial) (.inl rfl) (fun b u _ q=>q) ⟨o,f⟩ ⟨f,ok⟩
 exact I.un (h':=s.heap) (t':=s.toks) un BS
theorem Inv.VQ {o:Obj} (I:Inv X pins σ H s) (e:H a=some (.CK o (.dK kvs))) (nf:∀o u,X.H₀ a≠some (.CK o u)):Inv X pins σ (upd H a (.dK kvs)) s:=by
 have ok:=(show Au X.prog X.w H s.heap a (.CK o (.dK kvs))from I.BS a _ e)
 have d:∀b u,H b=some u->u≠.CK o (.dK kvs)->b≠a:=fun b u q n w=>by
  subst w
  rw[e]at q
  exact n (ADt q).symm
 have f:∀b,H b=none->b≠a:=fun b n w=>by subst w;rw[e]at n;cases n
 have B:=I.base
 refine⟨I.ok,I.os,I.bare,⟨B.keep,B.slot,fun b g q n i=>by rw[AK (f b (B.free b g q n i))];exact B.free b g q n i,B.there,fun b h q=>by rw[AK (d b _ (B.Iu b h q) (by intro z;cases z))];exact B.Iu b h q,
  fun b g u q=>by rw[AK (fun w=>nf g u (by rw[<-w];exact q))];exact B.Gy b g u q,fun b m q=>?_⟩,I.loc,I.cell,by rw[AK (f _ I.free)];exact I.free,fun x c q=>by rw[AK (f _ (I.DS x c q))];exact I.DS x c q,
  fun p t=>let⟨y,j,A⟩:=I.pin p t;⟨y,by rw[AK (f _ j)];exact j,A⟩,fun b u q=>?_,I.len⟩
 ·obtain⟨more,k⟩:=B.Kf b m q
  exact⟨more,by rw[AK (d b _ k (by intro z;cases z))];exact k⟩
 ·by_cases l:b=a
  ·subst l
   rw[AE]at q
   cases q
   exact ok.2
  ·rw[AK l]at q
   exact(I.BS b u q).Pk (fun c v _ r=>r) (fun c r=>by rw[AK (d c _ r (by intro z;cases z))];exact r) fun c h r=>by rw[AK (d c _ r (by intro z;cases z))];exact r
theorem Inv.nf (I:Inv X pins σ H s) (e:H a=some (.dK kvs)):∀o u,X.H₀ a≠some (.CK o u):=fun o u q=>by
 have:=I.base.Gy a o u q
 rw[e]at this
 cases this
end
def MZ (a:Addr) (o:Obj) (kvs:List (Key×V)) (k:Hp->Prop):Hp->Prop:=fun H=>H a=some (.CK o (.dK kvs))/\k (upd H a (.dK kvs))
inductive VR (t:TE) (σ:St) (H:Hp) (Q:VK):Prop
 |mk (a:_) (kvs:_) (b:H a=some (.dK kvs)) (c:∀o,t σ (upd H a (.CK o (.dK kvs))) fun v=>MZ a o kvs (Q v)):VR t σ H Q
def fz (t:TE):TE:=fun a H Q=>VR t a H Q
inductive VS (t:TS) (D:Ends) (σ:St) (H:Hp):Prop
 |mk (a:_) (kvs:_) (b:H a=some (.dK kvs)) (c:∀o,t ⟨fun σ=>MZ a o kvs (D.nx σ),fun v=>MZ a o kvs (D.rt v),fun σ=>MZ a o kvs (D.bk σ),fun σ=>MZ a o kvs (D.ct σ)⟩ σ (upd H a (.CK o (.dK kvs)))):VS t D σ H
def f_ (t:TS):TS:=fun D a H=>VS t D a H
section
variable{X:Cx}
theorem bV {e:Expr} {t:TE} (h:PE X e t):PE X e (fz t):=by
 rintro pins s c H Q I ⟨a,kvs,b,d⟩
 obtain⟨o,l,f⟩:=I.freeze b
 exact BZ (h pins s c _ _ f (d o)) fun u m ⟨v,n,g,i,j,k⟩=>⟨v,_,g.VQ j (I.nf b),i,k⟩
theorem bW {st:Stmt} {t:TS} (h:PS X st t):PS X st (f_ t):=by
 rintro pins s k H D I ⟨a,kvs,g,l⟩
 obtain⟨o,p,m⟩:=I.freeze g
 refine BZ (h pins s k _ _ m (l o)) fun f q i=>?_
 cases f with
 |next=>obtain⟨b,j,c,d,e⟩:=i;exact⟨b,_,c.VQ d (I.nf g),e⟩
 |brk=>obtain⟨b,j,c,d,e⟩:=i;exact⟨b,_,c.VQ d (I.nf g),e⟩
 |cont=>obtain⟨b,j,c,d,e⟩:=i;exact⟨b,_,c.VQ d (I.nf g),e⟩
 |ret u=>obtain⟨v,b,j,c,n,d,e⟩:=i;exact⟨v,b,_,c.VQ d (I.nf g),n,e⟩
theorem DH {e:Expr} {t u:TE} (h:PE X e t) (h':PE X e u):PE X e (fun σ H Q=>t σ H Q∨u σ H Q):=by
 rintro pins s σ H Q I (q|q)
 ·exact h pins s σ H Q I q
 ·exact h' pins s σ H Q I q
theorem VT {e:Stmt} {t u:TS} (h:PS X e t) (h':PS X e u):PS X e (fun D σ H=>t D σ H∨u D σ H):=by
 rintro pins s σ H D I (q|q)
 ·exact h pins s σ H D I q
 ·exact h' pins s σ H D I q
end
def dh (a:Addr) (o:Obj) (kvs:List (Key×V)):It:=
 ⟨fun i H=>H a=some (.CK o (.dK kvs))/\i<kvs.length,fun i H x b=>b=H/\∃k v,kvs[i]?=some (k,v)/\x=kV k,fun i H=>H a=some (.CK o (.dK kvs))/\i=kvs.length⟩
def f' (c:TE):TI:=fun d H R=>c d H fun x b=>∃a o kvs,x=.ref a/\b a=some (.CK o (.dK kvs))/\R (dh a o kvs) b
theorem YA {P:Program} {w:World} {k:Key} {u:Value} (h:(An P w).is k u=true):RelV (kV k) u:=by
 rcases BR (k:=k) (v:=u) h with⟨i,t,rfl,rfl⟩|⟨x,t,rfl,rfl⟩
 ·exact⟨t,rfl⟩
 ·exact⟨t,rfl⟩
theorem TH {P:Program} {w:World} {K:ADv} {tg:Expr} {a it:Addr} {o:Obj} {kvs:List (Key×V)} {vs:List (Key×Value)} {ep:Nat} (YB:a≠it) (rel:KV kvs vs) (hD:∀h:Heap,h.get? a=some o->h.DictAt (An P w) a vs ep):
  Turn P w K tg (dh a o kvs) [it] it (fun i h=>h.IsKeyIter it a i vs.length ep)where
 mem:=by simp
 obj:=fun i h st b hb=>by
  have e:b=it:=by simpa using hb
  subst e
  obtain⟨ob,h1,_,h3⟩:=st
  exact⟨ob,h1,fun v z=>by rw[h3]at z;cases z⟩
 keep:=fun i h h' st k=>st.at fun ob e=>k it (by simp) ob e
 item:=fun X hp hw _ hc i pins s σ H E I hf st go=>by
  subst hp hw
  have f:=hf it (by simp)
  obtain⟨ga,gi⟩:=go
  have lg:=hD s.heap (show Au X.prog X.w H s.heap a (.CK o (.dK kvs))from I.BS a _ ga).1
  refine(Walks.dictKeys (knd:=An X.prog X.w) (I.ok.hd hc) it a YB vs ep).item i s _ E (by rw[<-rel.length];exact gi) ⟨st,lg⟩ fun v h' tk hP RH kept=>?_
  obtain⟨k,x,yi,hk⟩:=hP
  obtain⟨ob,h1,h2,h3⟩:=RH.1
  have yj:∃y,kvs[i]?=some (k,y):=by
   have e:=congrArg (fun l=>l[i]?) (KV.keys rel)
   simp only[List.getElem?_map,yi,ADr gi]at e
   have e:kvs[i].1=k:=by simpa using e
   exact⟨kvs[i].2,by rw[ADr gi,<-e]⟩
  obtain⟨y,hy⟩:=yj
  refine⟨v,rfl,NT (o:=ob) h1 h2 h3 (by decide) ⟨kV k,H,I.turned (fun b yk hb e=>kept b yk (by simp[hb]) e) f.1 f.2.1 f.2.2.2.1 f.2.2.2.2.1 f.2.2.2.2.2,YA hk,⟨rfl,k,y,hy,rfl⟩,RH.1,fun b hb=>?_⟩⟩
  have e:b=it:=by simpa using hb
  subst e
  exact f.1
 done:=fun X hp hw _ hc i pins s σ H E I hf st stop=>by
  subst hp hw
  have f:=hf it (by simp)
  obtain⟨ga,gi⟩:=stop
  have gi:i=vs.length:=by rw[gi];exact rel.length
  subst gi
  have lg:=hD s.heap (show Au X.prog X.w H s.heap a (.CK o (.dK kvs))from I.BS a _ ga).1
  refine(Walks.dictKeys (knd:=An X.prog X.w) (I.ok.hd hc) it a YB vs ep).done s _ E ⟨st,lg⟩ fun h' tk kept=>?_
  exact⟨rfl,I.turned (fun b ob hb e=>kept b ob (by simp[hb]) e) f.1 f.2.1 f.2.2.2.1 f.2.2.2.2.1 f.2.2.2.2.2⟩
 self:=fun A i s Q E st hQ=>wpAny_pyIter_keyiter st hQ
section
variable{X:Cx} {tg:Expr}
theorem Ih {l:Expr} {k:TE} (hl:PE X l k):PI X tg l (f' k):=by
 intro pins s p H R I h
 refine BZ (hl pins s p H _ I h) fun v c r=>r.elim fun x m g t u=>?_
 obtain⟨a,o,kvs,rfl,y,q⟩:=u
 cases t
 have ok:=(show Au X.prog X.w m c.heap a (.CK o (.dK kvs))from g.BS a _ y)
 obtain⟨n,z,A,F,i,B⟩:=ok
 obtain⟨G,d⟩:=B.dictAt
 obtain⟨J,C,f,D⟩:=id d
 rw[n]at f
 cases f
 have j:a<c.heap.objs.size:=Heap.lt_size n
 refine wpAny_pyIter_dict A d ⟨c.heap.objs.size,[c.heap.objs.size],_,dh a o kvs,m,rfl,g.kept (t':=c.toks) fun b K e=>Heap.get?_push_of_some _ e,
  TH (Nat.ne_of_lt j) i (fun h e=>⟨o,C,e,D⟩),⟨_,Heap.get?_push_size _ rfl,rfl,rfl⟩,fun b E=>?_,q⟩
 have e:b=c.heap.objs.size:=by simpa using E
 subst e
 exact g.Sg (Nat.le_refl _) g.fresh
end
theorem VU {a:Addr} {o:Obj} {kvs:List (Key×V)} {g:TG} {j:TS} {D:Ends} {σ:St} {H:Hp} (Pv:Nat->St->Hp->Prop) (n:Pv 0 σ H) (hl:∀i σ H,i<=kvs.length->Pv i σ H->H a=some (.CK o (.dK kvs)))
  (r:∀i k v σ H,kvs[i]?=some (k,v)->Pv i σ H->g (kV k) σ H fun b H2=>j {D with nx:=Pv (i+1),ct:=Pv (i+1),bk:=D.nx} b H2) (s:∀σ H,Pv kvs.length σ H->D.nx σ H):
  ∃W:Nat->Nat->St->Hp->Prop,(∃m,W 0 m σ H)/\∀i m σ H,W i m σ H->
   ((dh a o kvs).stop i H/\D.nx σ H)∨((dh a o kvs).go i H/\∃N:St->Hp->Prop,(∀c d,N c d->∃l,l<m/\W (i+1) l c d)/\∀x d,(dh a o kvs).Sf i H x d->g x σ d fun b H2=>j {D with nx:=N,ct:=N,bk:=D.nx} b H2):=by
 refine⟨fun i m σ H=>m=kvs.length-i/\i<=kvs.length/\Pv i σ H,⟨kvs.length,by simp,Nat.zero_le _,n⟩,?_⟩
 rintro i m σ H ⟨rfl,t,p⟩
 have q:=hl i σ H t p
 by_cases f:i<kvs.length
 ·refine .inr ⟨⟨q,f⟩,Pv (i+1),fun c d u=>⟨kvs.length-(i+1),by lia,rfl,f,u⟩,fun x d y=>?_⟩
  obtain⟨e,k,v,h,rfl⟩:=y
  subst e
  exact r i k v σ _ h p
 ·have e:i=kvs.length:=by lia
  subst e
  exact .inl ⟨⟨q,rfl⟩,s σ H p⟩
def Ez (H a:Hp):Prop:=∀b u,Rd H b u->Rd a b u
theorem AG.r {H a:Hp} (s:AG H a):Ez H a:=fun b u r=>r.up fun o=>s b o
theorem Ez.trans {H a H2:Hp} (s:Ez H a) (t:Ez a H2):Ez H H2:=fun b u r=>t b u (s b u r)
theorem Ez.CK {H:Hp} {a:Addr} {o:Obj} {kvs:List (Key×V)} (e:H a=some (.dK kvs)):Ez H (upd H a (.CK o (.dK kvs))):=fun b u r=>by
 by_cases c:b=a
 ·subst c
  rcases r with r|⟨d,r⟩
  ·rw[e]at r;cases r;exact .inr ⟨o,AE⟩
  ·rw[e]at r;cases r
 ·exact r.up fun d q=>by rw[AK c];exact q
end L2
namespace PySem
open PyProof.Rows PySem.F PySem.Spec
theorem JS:typeLookup (.type "list") "keys"=pure none:=by rw[typeLookup_type,builtinLookup_eq_fast];kernel_rfl
theorem JT {prog:Program} {w:World} {A:Around} {E:Value->Shared->Prop} {s:Shared} {a:Addr} {o:Obj} {xs:Array Value} {k:Nat} {Q:Option Value->Shared->Prop}
  (j:s.heap.get? a=some o) (l:o.cls=.type "list") (b:o.data=.seq xs k) (m:o.dict=none) (hA:A.handled=none)
  (h:∀h' tk e,Heap.NewExcOf s.heap h' e "AttributeError"->Q none {s with heap:=h',toks:=tk}):
  wpAny (model prog w) A (getAttr? (.ref a) "keys") Q E s:=by
 obtain⟨c,BF,p,q⟩:=o
 simp only at l b m
 subst l b m
 obtain⟨r,g,d,tk,os⟩:=s
 have n:∀f,(⟨r,g,d,f,os⟩:Shared).TypeIs (.ref a) "list":=fun _=>⟨_,j,rfl⟩
 have t:=sub_AttributeError
 have u:=F.slot_list_getattribute.lookup
 have v:=F.slot_list_getattribute.bind (.ref a)
 have x:=am_list_getattr_none
 unfold getAttr? getAttrBy? getAttrBy
 repeat (any_goals (first|assumption|exact n _|((with_reducible show wpAny _ _ (call (Value.builtin "list.__getattribute__") _ _) _ _ _);refine call_meets F.slot_list_getattribute (n _) am_entry_list_getattribute (F.args_list_getattribute_2 _ _) (meets_getattribute_miss_list a xs k q "keys" _ JS (by decide+kernel) (by decide+kernel)) ⟨j,hA,fun h' f e i=>?_⟩)|wp_step))
 obtain⟨y,z,B⟩:=i.there
 show wpAny _ _ (getattributeRaised _ _ _ _ _ _ _) _ _ _
 unfold getattributeRaised
 repeat (any_goals (first|assumption|wp_step))
 exact h _ _ _ i.of
theorem CL:entryFor table "dict.update.loop"=some Builtin.«dict.update.loop»:=entryFor_of_tree (by kernel_rfl)
theorem BP:plainId "dict.update.loop"=true:=by decide+kernel
section
variable{prog:Program} {w:World} {K:Type} [DecidableEq K] {knd:KeyKind prog w K} {A:Around} {R:Result->Shared->Prop}
theorem TJ {I l d:Addr} {items:Array Value} {more:List (K×Value)} (hh:A.handled=none) (F:l≠I) (h:d≠I) (G:d≠l) (hlen:items.size=more.length) (hsz:more.length<=100000):
  ∀(k i:Nat) (s:Shared),more.length-i=k->i<=more.length->s.heap.IsListIter I l i->s.heap.IsList l items->s.heap.DictOf knd d (merged [] (more.take i))->
   (∀(j:Nat) x c,more[j]?=some (x,c)->∃t a,items[j]?=some (.ref t)/\t≠d/\t≠I/\IsTup s.heap t #[a,c]/\knd.is x a=true)->
   (∀h' tk,h'.DictOf knd d (merged [] more)->(∀b o,b≠d->b≠I->s.heap.get? b=some o->h'.get? b=some o)->R (.ok (.ret .none)) {s with heap:=h',toks:=tk})->
   codeAny (model prog w) A (.builtin "dict.update.loop" ⟨[.ref d,.ref I,rawInt (i:Int),.none],[]⟩) R s:=by
 have W:=Walks.list (prog:=prog) (w:=w) (A:=A.in1) hh I l F items
 intro k
 induction k with
 |zero=>
  intro i s hk hi m H D J L
  have M:i=more.length:=by lia
  subst M
  refine codeAny_builtin CL ?_
  rw[Around.under_plainId BP _]
  show wpAny _ A.in1 (pyNext (.ref I)>>=_) _ _ s
  refine wpAny_bind (W.done s _ _ (by rw[hlen];exact⟨m,H⟩) fun h' tk kept=>?_)
  rw[List.take_length]at D
  obtain⟨o,N,O,P,r⟩:=D
  show wpAny _ A.in1 (Builtin.Dict.addKeywords d []>>=_) _ _ _
  exact wpAny_bind (wpAny_pure (wpAny_pure (L h' tk ⟨o,N,O,kept _ _ (by simp[h]) P,r⟩ fun b o _ hb e=>kept b o (by simp[hb]) e)))
 |succ k ih=>
  intro i s hk hi m H D J L
  have n:i<more.length:=by lia
  obtain⟨⟨x,c⟩,hm⟩:∃p,more[i]?=some p:=⟨_,ADr n⟩
  obtain⟨t,a,ht,td,tI,tup,f⟩:=J i x c hm
  refine codeAny_builtin CL ?_
  rw[Around.under_plainId BP _]
  show wpAny _ A.in1 (pyNext (.ref I)>>=_) _ _ s
  refine wpAny_bind (W.item i s _ _ (by rw[hlen];exact n) ⟨m,H⟩ fun v h' tk hv y kept=>?_)
  rw[ht]at hv
  cases hv
  obtain⟨ot,Q,q,nt,z⟩:=tup
  have g:h'.get? t=some ot:=kept _ _ (by simp[tI]) Q
  have hT:({s with heap:=h',toks:=tk}:Shared).TypeIs (.ref t) "tuple":=⟨_,g,q⟩
  obtain⟨ct,dt,dat,slt⟩:=ot
  simp only at q z
  subst q z
  obtain⟨o,N,O,P,r⟩:=id D
  have S:h'.DictOf knd d (merged [] (more.take i)):=⟨o,N,O,kept _ _ (by simp[h]) P,r⟩
  have T:(merged [] (more.take i)).length<=sizeLine:=by
   have:=merged_length_le ([]:List (K×Value)) (more.take i)
   rw[List.length_take,List.length_nil]at this
   have e:sizeLine=16777216:=sizeLine_eq
   lia
  show wpAny _ A.in1 (holding [Value.ref t] _>>=_) _ _ _
  refine wpAny_bind (wpAny_holding (wpAny_bind (wpAny_tryCatch ?_)))
  unfold Builtin.Dict.pairItems
  refine wpAny_bind (wpAny_typeOf hT ?_)
  rw[if_pos (by decide)]
  unfold seqItems?
  refine wpAny_bind ?_
  refine wpAny_bind (wpAny_load g ?_)
  refine wpAny_pure (wpAny_pure ?_)
  show wpAny _ A.in1 (holding [a,c] (dictSet d a c)) _ _ _
  refine wpAny_holding ?_
  unfold dictSet
  try with_reducible refine wpAny_holding ?_
  refine wpAny_bind (knd.pyHash f ?_)
  refine wpAny_dictSetHashed_pairs (hsz:=T) f S fun h2 B u=>?_
  have e1:stored (merged [] (more.take i)) x c=merged [] (more.take (i+1)):=(merged_take_succ [] more i (x,c) hm).symm
  rw[e1]at B
  have kp:∀b o,b≠d->b≠I->s.heap.get? b=some o->h2.get? b=some o:=fun b o E U e=>by
   rw[u.2 b E]
   exact kept b o (by simp[U]) e
  have ic:((i:Int)+1)=((i+1:Nat):Int):=by simp
  refine wpAny_pure ⟨plainId_quiet BP _,?_⟩
  rw[ic]
  refine ih (i+1) _ (by lia) n (y.1.at fun o e=>by rw[u.2 I (Ne.symm h)];exact e) (y.2.at fun o e=>by rw[u.2 l (Ne.symm G)];exact e) B (fun j k2 v2 hj=>?_) (fun U V X Y=>L U V X fun b o E h4 e=>Y b o E h4 (kp b o E h4 e))
  obtain⟨t2,C,a1,a2,a3,⟨Z,b1,b2⟩,a5⟩:=J j k2 v2 hj
  exact⟨t2,C,a1,a2,a3,⟨Z,kp _ _ a2 a3 b1,b2⟩,a5⟩
end
end PySem
namespace L2
open PySem PySem.Spec PyProof.Rows
section
variable{X:Cx}
inductive Ra (K:ADv) (xs:List V) (H:Hp) (Q:VK):Prop
 |mk (l:Addr) (ts:List Addr) (kvs:List (Key×V)) (a:xs=[.ref l]) (b:Ap K H l (ts.map V.ref)) (c:ts.length=kvs.length) (d:(∀(j:Nat) k v,kvs[j]?=some (k,v)->∃t,ts[j]?=some t/\H t=some (.tup [kV k,v]))) (e:kvs.length<=1000) (f:∀p,H p=none->Q (.ref p) (upd H p (.dK (CG [] kvs)))):Ra K xs H Q
def bX (K:ADv):List V->Hp->VK->Prop:=fun a H Q=>Ra K a H Q
theorem Ej (hc:X.calm=true):BD X (.type "dict") (bX X.K):=by
 intro pins s σ H xs us Q I r h
 obtain⟨l,f,kvs,rfl,hl,hlen,hp,hz,q⟩:=h
 obtain⟨u,rfl,ru⟩:=vals1 r
 cases ru
 obtain⟨n,rv,pl,_⟩:=I.list hl
 obtain⟨W,nl,L,x,Y,C⟩:=id pl
 have M:X.A.in1.handled=none:=I.ok.hd hc
 refine callType_codes (Q₁:=fun N B=>N=.ref s.heap.objs.size/\B={s with heap:=s.heap.push {cls:=.type "dict",data:=.dict #[]}}) F.kt_called_dict (F.kt_typeCall_dict_1 _) F.entry_dict_init (kt_code_dict_new _ ⟨rfl,rfl⟩) ?_
 rintro N B ⟨rfl,rfl⟩
 have g:(s.heap.push {cls:=.type "dict",data:=.dict #[]}).DictOf (An X.prog X.w) s.heap.objs.size []:=Heap.DictOf.new s.heap
 refine⟨g.typeIs,F.args_dict_init_2 _ _,?_⟩
 unfold Builtin.«dict.__init__»
 refine wpAny_bind ?_
 unfold Builtin.Dict.selfAndRest
 refine wpAny_bind (wpAny_notOrdered_dict g.typeIs ?_)
 show wpAny _ _ (pure (s.heap.objs.size,[Value.ref l])) _ _ _
 refine wpAny_pure ?_
 show wpAny _ _ (Builtin.Dict.updateFrom "dict.__init__" s.heap.objs.size (.ref l) [] .none) _ _ _
 unfold Builtin.Dict.updateFrom
 have c:(s.heap.push {cls:=.type "dict",data:=.dict #[]}).get? l=some W:=Heap.get?_push_of_some _ L
 have Z:({s with heap:=s.heap.push {cls:=.type "dict",data:=.dict #[]}}:Shared).TypeIs (.ref l) "list":=⟨_,c,x⟩
 refine wpAny_bind (wpAny_typeOf Z ?_)
 rw[if_pos (by decide)]
 refine wpAny_bind (JT c x C Y M fun D ym e1 ne1=>?_)
 rw[if_pos (show(Option.isNone (none:Option Value))=true from rfl)]
 have i:∀b o,(s.heap.push {cls:=.type "dict",data:=.dict #[]}).get? b=some o->D.get? b=some o:=ne1.keeps
 have O:∀b o,s.heap.get? b=some o->D.get? b=some o:=fun b o e=>i b o (Heap.get?_push_of_some _ e)
 have di:D.IsList l n.toArray:=⟨W,i _ _ c,x,nl,C⟩
 refine wpAny_bind (wpAny_rule ?_)
 refine wpAny_bind (wpAny_pyIter_list di ?_)
 refine wpAny_pure ⟨plainId_quiet BP _,?_⟩
 obtain⟨od,es,ep,P,rd⟩:=id g
 have y:s.heap.objs.size<D.objs.size:=Heap.lt_size (i _ _ P)
 have R:l<s.heap.objs.size:=Heap.lt_size L
 have yn:∀kvs:List (Key×V),(∀p∈kvs,∃(t:Addr),H t=some (.tup [kV p.1,p.2]))->True:=fun _ _=>trivial
 have E:∀(t:Addr) k v,H t=some (.tup [kV k,v])->∃a d,IsTup s.heap t #[a,d]/\(An X.prog X.w).is k a=true/\RelV v d:=fun t k v e=>by
  obtain⟨z,r2,tp,_⟩:=I.tuple (BY.of e)
  cases r2 with
  |cons ra rr=>
   cases rr with
   |cons rb rr=>
    cases rr
    exact⟨_,_,tp,GL ra,rb⟩
 obtain⟨more,G⟩:∃more:List (Key×Value),KV kvs more/\∀(j:Nat) m d,more[j]?=some (m,d)->∃t a,f[j]?=some t/\IsTup s.heap t #[a,d]/\(An X.prog X.w).is m a=true:=by
  have gen:∀(kvs:List (Key×V)) (f:List Addr),(∀(j:Nat) k v,kvs[j]?=some (k,v)->∃t,f[j]?=some t/\H t=some (.tup [kV k,v]))->
    ∃more:List (Key×Value),KV kvs more/\∀(j:Nat) m d,more[j]?=some (m,d)->∃t a,f[j]?=some t/\IsTup s.heap t #[a,d]/\(An X.prog X.w).is m a=true:=by
   intro kvs
   induction kvs with
   |nil=>exact fun f _=>⟨[],.nil,fun j m d e=>by simp at e⟩
   |cons p r ih=>
    intro f h
    obtain⟨k,v⟩:=p
    obtain⟨t,e1,e2⟩:=h 0 k v rfl
    obtain⟨a,d,a1,a2,a3⟩:=E t k v e2
    obtain⟨more,b1,b2⟩:=ih f.tail (fun j k v e=>by
     obtain⟨t,c1,c2⟩:=h (j+1) k v (by simpa using e)
     exact⟨t,by rw[List.getElem?_tail];exact c1,c2⟩)
    refine⟨(k,d)::more,.cons ⟨rfl,a3⟩ b1,fun j m S e=>?_⟩
    cases j with
    |zero=>
     have e:(k,d)=(m,S):=by simpa using e
     cases e
     exact⟨t,a,e1,a1,a2⟩
    |succ j=>
     obtain⟨t,a,c1,c2,c3⟩:=b2 j m S (by simpa using e)
     exact⟨t,a,by rw[List.getElem?_tail]at c1;exact c1,c2,c3⟩
  exact gen kvs f hp
 obtain⟨J,hm⟩:=G
 have T:n.length=f.length:=by rw[<-rv.length,List.length_map]
 have U:∀(j:Nat) t,f[j]?=some t->n.toArray[j]?=some (.ref t):=fun j t e=>by
  obtain⟨u,D,h2⟩:=rv.get (show(f.map V.ref)[j]?=some (.ref t)by rw[List.getElem?_map,e];rfl)
  cases h2
  simpa using D
 show codeAny _ _ (.builtin "dict.update.loop" ⟨[.ref s.heap.objs.size,.ref D.objs.size,rawInt ((0:Nat):Int),.none],[]⟩) _ _
 refine TJ (knd:=An X.prog X.w) (l:=l) (items:=n.toArray) (more:=more) M (Nat.ne_of_lt (Nat.lt_trans R y)) (Nat.ne_of_lt y) (Nat.ne_of_gt R) (by rw[List.size_toArray,T,hlen];exact J.length) (by rw[<-J.length];lia) more.length 0 _ (by simp) (Nat.zero_le _)
  ⟨_,Heap.get?_push_size _ rfl,rfl,rfl⟩ ⟨W,Heap.get?_push_of_some _ (i _ _ c),x,nl,C⟩ ⟨od,es,ep,Heap.get?_push_of_some _ (i _ _ P),rd⟩ (fun j m d e=>?_) (fun h2 lh hd2 lj=>⟨rfl,?_⟩)
 ·obtain⟨t,a,c1,⟨ot,c2,yo⟩,c3⟩:=hm j m d e
  have:t<s.heap.objs.size:=Heap.lt_size c2
  exact⟨t,a,U j t c1,Nat.ne_of_lt this,Nat.ne_of_lt (Nat.lt_trans this y),⟨ot,Heap.get?_push_of_some _ (O _ _ c2),yo⟩,c3⟩
 ·have bY:(CG [] kvs).length<=sizeLine:=by
   have:=Cf kvs []
   exact Ab (by simp at this;lia)
  refine⟨.ref s.heap.objs.size,_,I.laid (t':=lh) (fun b o e=>?_) (Nat.le_refl _) (HQ bY (beq_eq_false_iff_ne.mpr (Ne.symm (Nat.ne_of_lt I.big))) (KV.merge J .nil) hd2),rfl,q _ I.fresh⟩
  have:=Heap.lt_size e
  exact lj b o (Nat.ne_of_lt this) (Nat.ne_of_lt (Nat.lt_trans this y)) (Heap.get?_push_of_some _ (O _ _ e))
end
theorem VW {x:V} (h:CI x=true):MN x x=true:=by
 cases x<;>simp_all [CI,MN]
theorem TK {xs:List V} (h:∀z∈xs,CI z=true):Kl xs xs=true:=by
 unfold Kl
 rw[Nat.min_self,Bool.and_eq_true]
 refine⟨List.all_eq_true.mpr fun j a=>?_,beq_self_eq_true _⟩
 have a:=List.mem_range.mp a
 rw[List.getD_eq_getElem?_getD,ADr a]
 exact VW (h _ (List.getElem_mem a))
section
variable{X:Cx}
theorem TL {pins:List (Addr×Obj)} {σ:St} {H:Hp} {s:Shared} {A:Around} {xs ys:List V} {its a:List Value} (d:Vals xs its) (e:Vals ys a) (f:∀z∈xs,CI z=true) (g:∀z∈ys,CI z=true)
  (j:Nat) (h:j<its.toArray.size) (i:j<a.toArray.size):SeqAt.EqAt A s its.toArray[j] a.toArray[j] (MN (xs.getD j .BO) (ys.getD j .BO)):=by
 have k:its.toArray.size=xs.length:=by rw[List.size_toArray];exact d.length.symm
 have l:a.toArray.size=ys.length:=by rw[List.size_toArray];exact e.length.symm
 have b:j<xs.length:=by rw[<-k];exact h
 have c:j<ys.length:=by rw[<-l];exact i
 obtain⟨m,n,o⟩:=d.get (ADr b)
 obtain⟨p,q,r⟩:=e.get (ADr c)
 have t:its.toArray[j]=m:=by
  have:=(ADs n).2
  simpa using this
 have u:a.toArray[j]=p:=by
  have:=(ADs q).2
  simpa using this
 rw[t,u]
 have v:xs.getD j .BO=xs[j]:=by rw[List.getD_eq_getElem?_getD,ADr b];rfl
 have w:ys.getD j .BO=ys[j]:=by rw[List.getD_eq_getElem?_getD,ADr c];rfl
 rw[v,w]
 exact Uh o r (f _ (List.getElem_mem b)) (g _ (List.getElem_mem c))
inductive Z' (K:ADv) (c:Bool) (x:V) (y:V) (H:Hp) (Q:VK):Prop
 |mk (a:Addr) (b:Addr) (xs:List V) (ys:List V) (d:x=.ref a) (e:y=.ref b) (f:Ap K H a xs) (g:Ap K H b ys) (h:(∀z∈xs,CI z=true)) (i:(∀z∈ys,CI z=true)) (j:Q (.bl (if c then !Kl xs ys else Kl xs ys)) H):Z' K c x y H Q
def l_ (K:ADv) (a:Bool):R2:=fun x y H Q=>Z' K a x y H Q
theorem bZ (l:X.A.units<cLine):DC X (compareOp .NotEq) (l_ X.K true):=by
 intro pins s σ H x y v u Q I t w h
 obtain⟨a,b,c,d,rfl,rfl,z,B,C,D,q⟩:=h
 cases t
 cases w
 obtain⟨i,m,n,_⟩:=I.list z
 obtain⟨f,o,p,_⟩:=I.list B
 have k:i.toArray.size=c.length:=by rw[List.size_toArray];exact m.length.symm
 have r:f.toArray.size=d.length:=by rw[List.size_toArray];exact o.length.symm
 by_cases g:c.length=d.length
 ·refine SeqAt.RcNeAt.lists (e:=fun j=>MN (c.getD j .BO) (d.getD j .BO)) n.isList p.isList (by rw[k,r,g]) l (fun j E F=>TL (pins:=pins) (σ:=σ) (H:=H) m o C D j E F) _ _ _ _ ?_
  refine⟨.bl (!Kl c d),H,I,?_,q⟩
  show Value.bool _=Value.bool _
  congr 2
  unfold Kl
  rw[k,g,Nat.min_self,beq_self_eq_true,Bool.and_true]
 ·refine SeqAt.RcNeAt.lists_lengths n.isList p.isList (by rw[k,r];simpa using g) l _ _ _ _ ⟨.bl (!Kl c d),H,I,?_,q⟩
  show Value.bool _=Value.bool _
  congr 1
  unfold Kl
  rw[beq_eq_false_iff_ne.mpr g,Bool.and_false]
  rfl
theorem OA {a:Expr} {f:TA} {p pos:Pos} (l:Gl X "range") (m:X.mg "range"=none) (n:PA X [a] f) (u:starEach [a] X.env=[(false,eval a X.env)]:=by rfl):
  PE X (.Call (.Name "range" p) [a] [] pos) (fun d H Q=>f d H fun g c=>∃j:Int,g=[.int j]/\∀r,c r=none->Q (.ref r) (upd c r (.ai 0 j))):=by
 intro pins s d H Q I h
 refine Call_ (Em I l m boot_range (PyProof.Rows.callWith_type1 (BZ (n pos pins s d H _ I h) fun z i v=>v.elim fun g c k w x=>?_) u rfl))
 obtain⟨j,e,q⟩:=x
 subst e
 cases w with
 |cons r y=>
  cases y
  obtain⟨t,rfl⟩:=r
  exact call_range_1 ⟨.ref i.heap.objs.size,upd c i.heap.objs.size (.ai 0 j),k.laid (fun b o e=>Heap.get?_push_of_some _ e) (Nat.le_refl _) ⟨_,_,_,Heap.get?_push_size _ rfl⟩,rfl,q _ k.fresh⟩
inductive Dy (xs:List V) (H:Hp) (Q:VK):Prop
 |mk (r:Addr) (n:Nat) (a:xs=[.ref r]) (b:H r=some (.ai 0 (n:Int))) (c:n<=1000) (d:∀l,H l=none->Q (.ref l) (upd H l (.lst ((List.range n).map fun(i:Nat)=>V.int (i:Int))))):Dy xs H Q
def IW:List V->Hp->VK->Prop:=fun a H Q=>Dy a H Q
theorem Fp (o:X.calm=true):BD X (.type "list") IW:=by
 intro pins s K H L M Q I r h
 obtain⟨g,n,rfl,p,x,q⟩:=h
 obtain⟨u,rfl,y⟩:=vals1 r
 cases y
 obtain⟨t,u,v,e⟩:=(show Au X.prog X.w H s.heap g (.ai 0 (n:Int))from I.BS g _ p)
 have f:X.A.handled=none:=I.ok.hd o
 refine call_list_range (n:=n) f e (small_one (by lia) (by lia) (by lia) (by lia)) (by rw[rangeSize_one];split<;>lia) (by lia) fun B C b D E F j=>?_
 have G:((List.range n).map fun(i:Nat)=>V.int (i:Int)).length<=sizeLine:=by rw[List.length_map,List.length_range];exact Ab x
 refine⟨.ref s.heap.objs.size,_,I.laid (t':=C) E (Nat.le_refl _) (show Au X.prog X.w _ B _ (.lst _)from⟨G,b.toList,D,?_,by rw[Array.toArray_toList];exact F⟩),rfl,q _ I.fresh⟩
 have gen:∀(n:Nat) (l:List Value),l.length=n->(∀(i:Nat) v,l[i]?=some v->∃t,v=Value.int (0+(i:Int)*1) t)->Vals ((List.range n).map fun(i:Nat)=>V.int (i:Int)) l:=by
  intro n
  induction n with
  |zero=>intro l c _;rw[List.eq_nil_of_length_eq_zero c];exact .nil
  |succ n J=>
   intro l c k
   have a:l≠[]:=fun z=>by rw[z]at c;cases c
   have m:l=l.dropLast++[l.getLast a]:=(List.dropLast_concat_getLast a).symm
   rw[List.range_succ,List.map_append,m]
   refine(J l.dropLast (by rw[List.length_dropLast,c];rfl) fun i v d=>?_).append (.cons ?_ .nil)
   ·refine k i v ?_
    rw[m,List.getElem?_append_left ((ADs d).1)]
    exact d
   ·have:l[n]?=some (l.getLast a):=by
     rw[List.getLast_eq_getElem]
     have:l.length-1=n:=by lia
     rw[ADr (by lia)]
     congr 1
     simp[this]
    obtain⟨t,e⟩:=k n _ this
    exact⟨t,by rw[e];congr 1;lia⟩
 exact gen n b.toList (by rw[Array.length_toList];exact j.1) fun i v d=>j.2 i v (by rw[<-Array.getElem?_toList];exact d)
inductive DX (xs:List V) (H:Hp) (Q:VK):Prop
 |mk (a:_) (kvs:_) (b:xs=[.ref a]) (c:Rd H a (.dK kvs)) (d:∀p,H p=none->Q (.ref p) (upd H p (.dK kvs))):DX xs H Q
def HW:List V->Hp->VK->Prop:=fun a H Q=>DX a H Q
theorem JU:BD X (.type "dict") HW:=by
 intro pins s f H g i Q I r h
 obtain⟨a,kvs,rfl,b,q⟩:=h
 obtain⟨u,rfl,c⟩:=vals1 r
 cases c
 exact Uq I b fun p j d e=>⟨.ref p,_,e,rfl,q p d⟩
inductive GS (xs:List V) (H:Hp) (Q:VK):Prop
 |mk (a:_) (kvs:_) (b:xs=[V.ref a]) (c:Rd H a (.dK kvs)) (d:Q (.int kvs.length) H):GS xs H Q
def OB:List V->Hp->VK->Prop:=fun a H Q=>GS a H Q
theorem LL:BD X (.builtin "len") OB:=by
 intro pins s e H f g Q I r h
 obtain⟨a,kvs,rfl,b,q⟩:=h
 obtain⟨u,rfl,c⟩:=vals1 r
 cases c
 exact fj I b fun t i d=>⟨.int kvs.length,H,d,⟨t,rfl⟩,q⟩
end
theorem QQ:∀a b:List Nat,ltCps a b=false->ltCps b a=false->a=b
 |[],[],_,_=>rfl
 |[],y::t,h,_=>by simp[ltCps]at h
 |x::r,[],_,h=>by simp[ltCps]at h
 |x::r,y::t,c,d=>by
  simp only[ltCps,Bool.or_eq_false_iff,decide_eq_false_iff_not,Bool.and_eq_false_iff]at c d
  have e:x=y:=by lia
  subst e
  simp at c d
  rw[QQ r t c d]
theorem aB:∀a b c:List Nat,ltCps a b=true->ltCps b c=true->ltCps a c=true
 |[],[],c,h,_=>by simp[ltCps]at h
 |[],y::t,[],_,h=>by simp[ltCps]at h
 |[],y::t,z::u,_,_=>by simp[ltCps]
 |x::r,[],c,h,_=>by simp[ltCps]at h
 |x::r,y::t,[],_,h=>by simp[ltCps]at h
 |x::r,y::t,z::u,d,e=>by
  simp only[ltCps,Bool.or_eq_true,decide_eq_true_eq,Bool.and_eq_true,beq_iff_eq]at d e⊢
  rcases d with d|⟨d,f⟩<;>rcases e with e|⟨e,g⟩
  ·left;lia
  ·left;lia
  ·left;lia
  ·right;exact⟨by lia,aB r t u f g⟩
theorem gA (a b c:List Nat) (g:ltCps b a=false) (d:ltCps c b=false):ltCps c a=false:=by
 cases e:ltCps c a with
 |false=>rfl
 |true=>
  cases f:ltCps a b with
  |true=>rw[aB c a b e f]at d;cases d
  |false=>rw[QQ a b f g]at e;rw[e]at d;cases d
theorem LM:∀(p:Str) (l:List Str),risingS p l=true->(∀x∈l,ltCps x.cps.toList p.cps.toList=false)/\l.Pairwise fun a b=>ltCps b.cps.toList a.cps.toList=false
 |_,[],_=>⟨fun x c=>(nomatch c),.nil⟩
 |p,y::r,h=>by
  simp only[risingS,Bool.and_eq_true,Bool.not_eq_true']at h
  obtain⟨d,e⟩:=LM y r h.2
  refine⟨fun x c=>?_,.cons d e⟩
  rcases List.mem_cons.mp c with rfl|c
  ·exact h.1
  ·exact gA _ _ _ h.1 (d x c)
theorem JV {l:List Str} (h:sortedS l=true):l.Pairwise fun a b=>ltCps b.cps.toList a.cps.toList=false:=by
 cases l with
 |nil=>exact .nil
 |cons x r=>obtain⟨c,d⟩:=LM x r h;exact .cons c d
theorem YC {x y:Str} (h:x.cps.toList=y.cps.toList):x=y:=by
 cases x;cases y
 simp only at h
 congr 1
 exact Array.toList_inj.mp h
theorem JW:∀{a b:List Str},(a.Pairwise fun a b=>ltCps b.cps.toList a.cps.toList=false)->(b.Pairwise fun a b=>ltCps b.cps.toList a.cps.toList=false)->a.Perm b->a=b
 |[],b,_,_,p=>(List.nil_perm.mp p).symm
 |x::r,[],_,_,p=>by have:=p.length_eq;simp at this
 |x::r,y::t,f,g,p=>by
  obtain⟨a1,a2⟩:=List.pairwise_cons.mp f
  obtain⟨h,i⟩:=List.pairwise_cons.mp g
  have e:x=y:=by
   have c:x∈y::t:=p.mem_iff.mp List.mem_cons_self
   have d:y∈x::r:=p.mem_iff.mpr List.mem_cons_self
   rcases List.mem_cons.mp c with c|c
   ·exact c
   ·rcases List.mem_cons.mp d with d|d
    ·exact d.symm
    ·exact YC (QQ _ _ (h x c) (a1 y d))
  subst e
  rw[JW a2 i (List.Perm.cons_inv p)]
theorem CN {a b:List Str} (c:sortedS a=true) (d:sortedS b=true) (p:a.Perm b):a=b:=JW (JV c) (JV d) p
namespace Dc
mutual
def deep:Dc->Nat
 |leaf _=>1
 |row _ xs=>1+AV xs
 |tab _ _ xs=>1+AV xs
def AV:List Dc->Nat
 |[]=>0
 |x::r=>max (deep x) (AV r)
end
mutual
def parts:Dc->List Dc
 |leaf v=>[leaf v]
 |row a xs=>row a xs::QR xs
 |tab a ks xs=>tab a ks xs::QR xs
def QR:List Dc->List Dc
 |[]=>[]
 |x::r=>parts x++QR r
end
structure mB (e d:Dc):Prop where
 at_:∀{H:Hp},d.At H->e.At H
 ok:d.ok->e.ok
 slim:d.slim->e.slim
 deep:e.deep<=d.deep
 size:e.size<=d.size
 addrs:∀a∈e.addrs,a∈d.addrs
mutual
def DI:Dc->Dc->Prop
 |leaf v,leaf w=>v=w
 |row _ xs,row _ ys=>CS xs ys
 |tab _ ks xs,tab _ ls ys=>ks=ls/\CS xs ys
 |_,_=>False
def CS:List Dc->List Dc->Prop
 |[],[]=>True
 |x::r,y::t=>DI x y/\CS r t
 |_,_=>False
end
theorem LN:∀{xs ys:List Dc},CS xs ys->∀(i:Nat) x,xs[i]?=some x->∃y,ys[i]?=some y/\DI x y
 |[],_,_,i,x,e=>by simp at e
 |x::r,[],h,_,_,_=>by simp[CS]at h
 |x::r,y::t,h,0,z,e=>by simp only[CS]at h;simp at e;subst e;exact⟨y,rfl,h.1⟩
 |x::r,y::t,h,i+1,z,e=>by simp only[CS]at h;simp at e;obtain⟨w,a,b⟩:=LN h.2 i z e;exact⟨w,by simpa using a,b⟩
def kids:Dc->List Dc
 |leaf _=>[]
 |row _ xs=>xs
 |tab _ _ xs=>xs
theorem ES {xs ys:List Dc} (p:xs.Perm ys):AJ xs=AJ ys:=by
 induction p with
 |nil=>rfl
 |cons x _ a=>simp only[AJ,a]
 |swap x y l=>simp only[AJ];lia
 |trans _ _ b c=>exact b.trans c
def YD:Dc->List V->Prop
 |leaf _,l=>l=[]
 |row _ xs,l=>l=(List.range xs.length).map fun(i:Nat)=>V.int (i:Int)
 |tab _ ks _,l=>∃ss:List Str,l=ss.map V.str/\ss.Perm ks/\sortedS ss=true
end Dc
structure JX (H H':Hp) (d:Dc):Prop where
 same:AG H H'
 at_:d.At H'
 nd:d.addrs.Nodup
 own:∀a∈d.addrs,∀o u,H' a≠some (.CK o u)
 new:∀a∈d.addrs,H a=none
theorem Rb {c:TT} {g:TS} {D:Ends} {σ:St} {H:Hp} (W:Nat->St->Hp->Prop) (h:Nat) (j:W h σ H)
  (k:∀m σ H,W m σ H->c σ H fun b d=>if b=true then g {D with nx:=fun a f=>∃e,e<m/\W e a f,ct:=fun a f=>∃e,e<m/\W e a f,bk:=D.nx} σ d else D.nx σ d)
  (mono:∀σ H Q i,(∀b d,Q b d->i b d)->c σ H Q->c σ H i):US c g D σ H:=by
 refine⟨W,⟨h,j⟩,fun m σ H p=>?_⟩
 refine mono σ H _ _ (fun b d q=>?_) (k m σ H p)
 cases b with
 |true=>exact⟨_,fun a f z=>z,q⟩
 |false=>exact q
inductive YE (n:Nat) (vs:List V) (H:Hp) (Q:VK) (a:XK):Prop
 |mk (d:Dc) (c:vs=[d.val]) (e:d.At H) (f:d.deep<=n) (g:d.size<=900) (h:∀(d':Dc) (b:Hp),JX H b d'->Dc.DI d d'->Q d'.val b):YE n vs H Q a
inductive VX (n:Nat) (vs:List V) (H:Hp) (Q:VK) (a:XK):Prop
 |mk (d:Dc) (e:Dc) (c:vs=[d.val,e.val]) (f:d.At H) (g:e.At H) (h:Dc.DI d e) (i:d.slim) (j:d.deep<=n) (k:d.size<=900) (l:∀b,AG H b->Q (.bl true) b):VX n vs H Q a
inductive VY (n:Nat) (vs:List V) (H:Hp) (Q:VK) (a:XK):Prop
 |mk (d:Dc) (c:vs=[d.val]) (e:d.At H) (f:d.deep<=n) (g:d.size<=900) (h:∀(p:Addr) (b:Hp),AG H b->H p=none->b p=some (.lst (d.parts.map Dc.val))->Q (.ref p) b):VY n vs H Q a
inductive OC (vs:List V) (H:Hp) (Q:VK) (a:XK):Prop
 |mk (d:Dc) (c:vs=[d.val]) (e:d.At H) (f:d.slim) (g:d.size<=900) (h:∀(p:Addr) (l:List V) (b:Hp),AG H b->H p=none->b p=some (.lst l)->d.YD l->Q (.ref p) b):OC vs H Q a
def Ii:Sp:=fun b H Q a=>OC b H Q a
inductive VZ (vs:List V) (H:Hp) (Q:VK) (a:XK):Prop
 |mk (d:Dc) (c:vs=[d.val]) (e:d.At H) (f:d.slim) (g:d.size<=900) (h:∀(p:Addr) (es:List Dc) (b:Hp),AG H b->H p=none->b p=some (.lst (es.map Dc.val))->es.Perm d.kids->Q (.ref p) b):VZ vs H Q a
inductive TM (vs:List V) (H:Hp) (Q:VK) (a:XK):Prop
 |mk (d:Dc) (c:vs=[d.val]) (e:d.At H) (f:d.slim) (g:d.size<=900) (h:∀b,AG H b->Q (.int (d.size:Int)) b):TM vs H Q a
inductive Va (vs:List V) (H:Hp) (Q:VK) (a:XK):Prop
 |mk (d:Dc) (c:vs=[d.val]) (e:d.At H) (f:d.ok) (g:d.slim) (h:d.size<=900) (i:∀b,AG H b->Q (.bl true) b):Va vs H Q a
def Dc.kindS:Dc->Str
 | .leaf (.str _)=>"text"
 | .leaf _=>"number"
 | .row _ _=>"row"
 | .tab _ _ _=>"table"
inductive YF (vs:List V) (H:Hp) (Q:VK) (a:XK):Prop
 |mk (d:Dc) (b:vs=[d.val]) (c:d.At H) (e:Q (.str d.kindS) H):YF vs H Q a
inductive Vb (n:Nat) (vs:List V) (H:Hp) (Q:VK) (b:XK):Prop
 |mk (d:Dc) (t:Addr) (xs:List V) (c:vs=[d.val,.ref t]) (e:d.At H) (f:d.ok) (g:d.slim) (h:d.deep<=n) (i:H t=some (.tup xs)) (j:xs.length+d.size<=1000) (k:∀(p:Addr) (ps:List Addr) (a:Hp),AG H a->H p=none->a p=some (.lst (ps.map V.ref))->ps.length=d.size->(∀q∈ps,∃zs,a q=some (.tup (xs++zs))/\(d.sub zs).isSome=true)->Q (.ref p) a):Vb n vs H Q b
def back (a:Addr) (H c:Hp):Hp:=fun b=>if b=a then H a else c b
theorem FO {a b:Addr} {H c:Hp} (h:b≠a):back a H c b=c b:=if_neg h
theorem Ij {a:Addr} {H b:Hp}:back a H b a=H a:=if_pos rfl
theorem OD {a:Addr} {H c:Hp} {u:HO} (e:H a=some u):back a H c=upd c a u:=by
 funext b
 unfold back upd
 split
 ·exact e
 ·rfl
theorem Dz {a:Addr} {H c:Hp} (e:H a=c a):back a H c=c:=by
 funext b
 unfold back
 split
 ·rename_i h;rw[h,e]
 ·rfl
structure QS (a:Addr) (o:Obj) (kvs:List (Key×V)) (H Hf:Hp):Prop where
 at_:Hf a=some (.CK o (.dK kvs))
 rd:Ez H Hf
 ne:∀b,b≠a->Hf b=H b
 mC:Rd H a (.dK kvs)
theorem QS.free {a b:Addr} {o:Obj} {kvs:List (Key×V)} {H c:Hp} (F:QS a o kvs H c) (h:c b=none):H b=none/\b≠a:=by
 have d:b≠a:=fun z=>by rw[z,F.at_]at h;cases h
 rw[F.ne b d]at h
 exact⟨h,d⟩
theorem QS.back {a:Addr} {o:Obj} {kvs:List (Key×V)} {H d f:Hp} (F:QS a o kvs H d) (s:AG d f):AG H (back a H f):=fun b u e=>by
 by_cases c:b=a
 ·subst c;rw[Ij];exact e
 ·rw[FO c]
  exact s b u (by rw[F.ne b c];exact e)
inductive Rc (t:TE) (σ:St) (H:Hp) (Q:VK):Prop
 |mk (a:_) (kvs:_) (d:Rd H a (.dK kvs)) (e:∀o b,QS a o kvs H b->t σ b fun v c=>c a=some (.CK o (.dK kvs))/\Q v (back a H c)):Rc t σ H Q
def bc (t:TE):TE:=fun a H Q=>Rc t a H Q
inductive Rf (t:TS) (D:Ends) (σ:St) (H:Hp):Prop
 |mk (a:_) (kvs:_) (d:Rd H a (.dK kvs)) (e:∀o c,QS a o kvs H c->t ⟨fun σ b=>b a=some (.CK o (.dK kvs))/\D.nx σ (back a H b),fun v b=>b a=some (.CK o (.dK kvs))/\D.rt v (back a H b),fun σ b=>b a=some (.CK o (.dK kvs))/\D.bk σ (back a H b),fun σ b=>b a=some (.CK o (.dK kvs))/\D.ct σ (back a H b)⟩ σ c):Rf t D σ H
def bg (t:TS):TS:=fun D a H=>Rf t D a H
theorem QS.of {a:Addr} {o:Obj} {kvs:List (Key×V)} {H:Hp} (e:H a=some (.dK kvs)):QS a o kvs H (upd H a (.CK o (.dK kvs))):=⟨AE,Ez.CK e,fun b c=>AK c,.inl e⟩
theorem QS.same {a:Addr} {o:Obj} {kvs:List (Key×V)} {H:Hp} (e:H a=some (.CK o (.dK kvs))):QS a o kvs H H:=⟨e,fun _ _ r=>r,fun _ _=>rfl,.inr ⟨o,e⟩⟩
section
variable{X:Cx}
theorem Rg {e:Expr} {t:TE} (h:PE X e t):PE X e (bc t):=by
 rintro pins s c H Q I ⟨a,kvs,r,d⟩
 rcases r with r|⟨o,r⟩
 ·refine bV h pins s c H Q I ⟨a,kvs,r,fun o=>?_⟩
  have:=d o _ (QS.of r)
  have e:(fun v b=>b a=some (.CK o (.dK kvs))/\Q v (back a H b))=fun v=>MZ a o kvs (Q v):=by
   funext v b
   unfold MZ
   rw[OD r]
  rw[e]at this
  exact this
 ·refine BZ (h pins s c H _ I (d o H (QS.same r))) fun u l ⟨v,g,i,j,k,f⟩=>⟨v,g,i,j,?_⟩
  rw[Dz (r.trans k.symm)]at f
  exact f
theorem Rh {st:Stmt} {t:TS} (h:PS X st t):PS X st (bg t):=by
 rintro pins s m H D I ⟨a,kvs,r,n⟩
 rcases r with r|⟨o,r⟩
 ·refine bW h pins s m H D I ⟨a,kvs,r,fun o=>?_⟩
  have:=n o _ (QS.of r)
  have e:∀k:Hp->Prop,(fun j=>j a=some (.CK o (.dK kvs))/\k (back a H j))=MZ a o kvs k:=fun k=>by
   funext j
   unfold MZ
   rw[OD r]
  simp only[<-e]
  exact this
 ·refine BZ (h pins s m H _ I (n o H (QS.same r))) fun f q i=>?_
  cases f with
  |next=>obtain⟨b,l,d,g,c⟩:=i;rw[Dz (r.trans g.symm)]at c;exact⟨b,_,d,c⟩
  |brk=>obtain⟨b,l,d,g,c⟩:=i;rw[Dz (r.trans g.symm)]at c;exact⟨b,_,d,c⟩
  |cont=>obtain⟨b,l,d,g,c⟩:=i;rw[Dz (r.trans g.symm)]at c;exact⟨b,_,d,c⟩
  |ret u=>obtain⟨v,b,l,d,p,g,c⟩:=i;rw[Dz (r.trans g.symm)]at c;exact⟨v,b,_,d,p,c⟩
end
theorem Ri {J:It} {o:TE} {fs:List Nat} {σ:St} {H:Hp} {Q:VK} (n:Nat) (item:Nat->V) (P:Addr->Nat->Hp->Prop) (s:∀D,H D=none->P D 0 (upd H D (.lst [])))
  (h:∀D i H2,i<n->P D i H2->J.go i H2) (t:∀D i H2 v q,i<n->P D i H2->J.Sf i H2 v q->v=item i/\q=H2) (j:∀D H2,P D n H2->J.stop n H2)
  (u:∀D i H2,H D=none->i<n->P D i H2->o (some (item i)::Cq σ fs) H2 fun y d=>∃ys,d D=some (.lst ys)/\ys.length<sizeLine/\P D (i+1) (upd d D (.lst (ys++[y]))))
  (w:∀D H2,H D=none->P D n H2->Q (.ref D) H2):Ft J QH o fs σ H Q:=by
 intro D k
 refine⟨fun i m H2=>m=n-i/\i<=n/\P D i H2,⟨n,rfl,Nat.zero_le _,s D k⟩,?_⟩
 rintro i m H2 ⟨rfl,x,p⟩
 by_cases f:i<n
 ·refine .inr ⟨h D i H2 f p,fun v r y=>?_⟩
  obtain⟨rfl,rfl⟩:=t D i H2 v r f p y
  unfold QH
  dsimp only
  rw[if_pos rfl]
  have g:=u D i r k f p
  have e:(fun(y:V) (d:Hp)=>∃ys,d D=some (.lst ys)/\ys.length<sizeLine/\∃l,l<n-i/\l=n-(i+1)/\i+1<=n/\P D (i+1) (upd d D (.lst (ys++[y]))))=fun y d=>∃ys,d D=some (.lst ys)/\ys.length<sizeLine/\P D (i+1) (upd d D (.lst (ys++[y]))):=by
   funext y d
   refine propext ⟨fun⟨ys,a,b,l,_,_,_,c⟩=>⟨ys,a,b,c⟩,fun⟨ys,a,b,c⟩=>⟨ys,a,b,n-(i+1),by lia,rfl,f,c⟩⟩
  rw[<-e]at g
  exact g
 ·have e:i=n:=by lia
  subst e
  exact .inl ⟨j D H2 p,w D H2 k p⟩
structure JY (H H':Hp) (es:List Dc):Prop where
 same:AG H H'
 at_:Dc.Gw H' es
 nd:(Dc.Ay es).Nodup
 own:∀a∈Dc.Ay es,∀o u,H' a≠some (.CK o u)
 new:∀a∈Dc.Ay es,H a=none
theorem JY.nil {H b:Hp} (s:AG H b):JY H b []:=⟨s,trivial,.nil,fun a h=>(nomatch h),fun a h=>(nomatch h)⟩
theorem ET:∀(more kvs:List (Key×V)),((kvs++more).map (·.1)).Nodup->CG kvs more=kvs++more
 |[],kvs,_=>by simp[CG]
 |p::r,kvs,h=>by
  have a:CF kvs p.1=none:=by
   cases e:CF kvs p.1 with
   |none=>rfl
   |some v=>
    have:=RS e
    rw[List.map_append,List.map_cons]at h
    obtain⟨_,_,b⟩:=List.nodup_append.mp h
    exact absurd rfl (b p.1 this p.1 List.mem_cons_self)
  show CG (putK kvs p.1 p.2) r=_
  rw[Nj p.2 a,ET r (kvs++[(p.1,p.2)]) (by simpa using h)]
  simp
namespace Dc
theorem Vc {nm:Str} {x:Dc}:∀(ks:List Str) (xs:List Dc) (i:Nat),ks.Nodup->ks[i]?=some nm->xs[i]?=some x->(ks.zip xs).lookup nm=some x
 |[],_,_,_,h,_=>by simp at h
 |y::r,[],_,_,_,h=>by simp at h
 |y::r,z::t,0,_,b,c=>by simp at b c;subst b c;simp
 |y::r,z::t,i+1,nd,b,c=>by
  obtain⟨d,e⟩:=List.nodup_cons.mp nd
  have a:r[i]?=some nm:=by simpa using b
  have ne:nm≠y:=fun z=>d (z▸ADu a)
  have:(nm==y)=false:=by simpa using ne
  simp only[List.zip_cons_cons,List.lookup_cons,this]
  exact Vc r t i e a (by simpa using c)
end Dc
def bh:V->Bool
 | .int _=>true
 |_=>false
def gB:V->Bool
 | .str x=>CB x
 |_=>false
def Short (v:V):Prop:=∀x,v=.str x->x.length<=1000
inductive Vd (vs:List V) (H:Hp) (Q:VK) (a:XK):Prop
 |mk (v:_) (T:_) (b:vs=[v]) (c:JK H v T) (d:Q (.bl (bh v)) H):Vd vs H Q a
inductive QT (vs:List V) (H:Hp) (Q:VK) (a:XK):Prop
 |mk (x:Str) (c:vs=[.str x]) (d:x.length<=1000) (e:∀b,AG H b->Q (.bl ((sgn x).all Zw)) b):QT vs H Q a
inductive YG (vs:List V) (H:Hp) (Q:VK) (a:XK):Prop
 |mk (v:_) (T:_) (c:vs=[v]) (d:JK H v T) (e:Short v) (f:∀b,AG H b->Q (.bl (gB v)) b):YG vs H Q a
inductive Ve (vs:List V) (H:Hp) (Q:VK) (a:XK):Prop
 |mk (d:Dc) (c:vs=[d.val]) (e:d.At H) (f:d.ok) (g:d.size<=900) (h:∀b,AG H b->Q (.bl true) b):Ve vs H Q a
def E_ (H b:Hp) (c:V):Dc->Prop
 | .leaf v=>c=v/\Dc.Lf v
 | .row _ xs=>∃a,c=.ref a/\b a=some (.lst (xs.map Dc.val))/\H a=none
 | .tab _ ks xs=>∃a,c=.ref a/\b a=some (.dK (Dc.kvs ks xs))/\H a=none
def rootOf (p:V×Dc):Option Addr:=match p.1 with
 | .ref a=>some a
 |_=>none
abbrev roots (ps:List (V×Dc)):List Addr:=ps.filterMap rootOf
theorem BW {ps:List (V×Dc)} {c:Addr}:c∈roots ps↔∃p∈ps,p.1=.ref c:=by
 rw[List.mem_filterMap]
 constructor
 ·rintro⟨p,b,e⟩
  refine⟨p,b,?_⟩
  unfold rootOf at e
  split at e
  ·rename_i a h;cases e;exact h
  ·cases e
 ·rintro⟨p,b,e⟩
  exact⟨p,b,by unfold rootOf;rw[e]⟩
theorem BM (ps a:List (V×Dc)):roots (ps++a)=roots ps++roots a:=List.filterMap_append ..
def BQ:List (V×Dc)->List Dc->Prop
 |[],[]=>True
 |p::ps,e::es=>e.val=p.1/\Dc.DI p.2 e/\BQ ps es
 |_,_=>False
theorem BQ.split:∀{ps a:List (V×Dc)} {es:List Dc},BQ (ps++a) es->∃b ec,es=b++ec/\BQ ps b/\BQ a ec
 |[],a,es,h=>⟨[],es,rfl,trivial,h⟩
 |p::ps,a,[],h=>by simp[BQ]at h
 |p::ps,a,e::es,h=>by
  simp only[List.cons_append,BQ]at h
  obtain⟨b,ec,rfl,c,d⟩:=BQ.split h.2.2
  exact⟨e::b,ec,rfl,by simp only[BQ];exact⟨h.1,h.2.1,c⟩,d⟩
theorem BQ.app:∀{ps a:List (V×Dc)} {b ec:List Dc},BQ ps b->BQ a ec->BQ (ps++a) (b++ec)
 |[],a,[],ec,_,h=>h
 |[],_,_::_,_,h,_=>by simp[BQ]at h
 |_::_,_,[],_,h,_=>by simp[BQ]at h
 |p::ps,a,e::b,ec,h,h'=>by
  simp only[BQ,List.cons_append]at h⊢
  exact⟨h.1,h.2.1,BQ.app h.2.2 h'⟩
theorem BQ.vals:∀{ps:List (V×Dc)} {es:List Dc},BQ ps es->es.map Dc.val=ps.map (·.1)
 |[],[],_=>rfl
 |[],_::_,h=>by simp[BQ]at h
 |_::_,[],h=>by simp[BQ]at h
 |p::ps,e::es,h=>by
  simp only[BQ]at h
  simp only[List.map_cons,h.1,BQ.vals h.2.2]
theorem BQ.Vf:∀{ps:List (V×Dc)} {es:List Dc},BQ ps es->Dc.CS (ps.map (·.2)) es
 |[],[],_=>by simp[Dc.CS]
 |[],_::_,h=>by simp[BQ]at h
 |_::_,[],h=>by simp[BQ]at h
 |p::ps,e::es,h=>by
  simp only[BQ]at h
  simp only[List.map_cons,Dc.CS]
  exact⟨h.2.1,BQ.Vf h.2.2⟩
structure D_ (H Hi:Hp) (L:Addr) (tv:V) (d:Dc) (ps:List (V×Dc)):Prop where
 same:AG H Hi
 nL:H L=none
 eL:Hi L=some (.lst (ps.map (·.1)))
 out:∀p∈ps,E_ H Hi p.1 p.2
 src:∀p∈ps,p.2.At H/\p.2.slim
 nd:(roots ps).Nodup
 TN:L∉roots ps
 bp:∀(es:List Dc) (H':Hp),BQ ps es->JY H H' es->(∀c∈Dc.Ay es,Hi c=none∨c∈roots ps)->(∀b o,b≠L->b∉roots ps->Hi b=some o->H' b=some o)->∃e:Dc,e.val=tv/\Dc.DI d e/\JX H H' e
theorem E_.root {H f:Hp} {p:V×Dc} {c:Addr} (o:E_ H f p.1 p.2) (e:p.1=.ref c):f c≠none/\H c=none/\∀j u,f c≠some (.CK j u):=by
 obtain⟨v,d⟩:=p
 simp only at e
 subst e
 cases d with
 |leaf v=>
  obtain⟨rfl,h⟩:=(show V.ref c=v/\Dc.Lf v from o)
  rcases h with⟨i,h⟩|⟨x,h,_⟩<;>cases h
 |row b k=>
  obtain⟨a,e,g,l⟩:=(show∃a,V.ref c=.ref a/\f a=some (.lst (k.map Dc.val))/\H a=none from o)
  cases e
  exact⟨by rw[g];simp,l,fun j u z=>by rw[g]at z;cases z⟩
 |tab b m k=>
  obtain⟨a,e,g,l⟩:=(show∃a,V.ref c=.ref a/\f a=some (.dK (Dc.kvs m k))/\H a=none from o)
  cases e
  exact⟨by rw[g];simp,l,fun j u z=>by rw[g]at z;cases z⟩
theorem E_.up {H h H2:Hp} {c:V} {d:Dc} (o:E_ H h c d) (k:∀a,c=.ref a->∀u,h a=some u->H2 a=some u):E_ H H2 c d:=by
 cases d with
 |leaf v=>exact o
 |row b i=>obtain⟨a,e,f,g⟩:=o;exact⟨a,e,k a e _ f,g⟩
 |tab b j i=>obtain⟨a,e,f,g⟩:=o;exact⟨a,e,k a e _ f,g⟩
theorem D_.step {H t H2:Hp} {L a:Addr} {S:V} {d node:Dc} {ps:List (V×Dc)} (C:D_ H t L S d (ps++[(.ref a,node)])) (j:List (V×Dc))
  (keep:∀b o,b≠a->b≠L->t b=some o->H2 b=some o) (eL:H2 L=some (.lst ((ps++j).map (·.1)))) (out:∀p∈j,E_ H H2 p.1 p.2) (src:∀p∈j,p.2.At H/\p.2.slim) (rn:(roots j).Nodup) (v:∀c∈roots j,t c=none)
  (n:H2 a≠none) (own:∀G u,H2 a≠some (.CK G u))
  (build:∀(ec:List Dc) (k:Hp),BQ j ec->Dc.Gw k ec->k a=H2 a->∃e:Dc,e.val=.ref a/\Dc.DI node e/\e.At k/\e.addrs.Perm (a::Dc.Ay ec)):D_ H H2 L S d (ps++j):=by
 have E:roots (ps++[(V.ref a,node)])=roots ps++[a]:=by rw[BM];rfl
 have nd:=C.nd
 rw[E]at nd
 obtain⟨I,_,J⟩:=List.nodup_append.mp nd
 have TN:=C.TN
 rw[E]at TN
 have aL:a≠L:=fun z=>TN (by rw[<-z];simp)
 have A:a∉roots ps:=fun z=>J a z a (by simp) rfl
 have K:=(C.out (.ref a,node) (by simp)).root rfl
 have T:∀c∈roots ps,c≠a/\c≠L/\t c≠none:=fun c f=>by
  obtain⟨p,g,e⟩:=BW.mp f
  refine⟨fun z=>A (by rw[<-z];exact f),fun z=>TN (by rw[<-z];simp[f]),?_⟩
  exact((C.out p (by simp[g])).root e).1
 refine⟨fun b o e=>?_,C.nL,eL,fun p g=>?_,fun p g=>?_,?_,?_,fun es k dn B z U=>?_⟩
 ·exact keep b o (Ac e K.2.1) (Ac e C.nL) (C.same b o e)
 ·rcases List.mem_append.mp g with g|g
  ·refine(C.out p (by simp[g])).up fun c e u h=>?_
   have:=T c (BW.mpr ⟨p,g,e⟩)
   exact keep c u this.1 this.2.1 h
  ·exact out p g
 ·rcases List.mem_append.mp g with g|g
  ·exact C.src p (by simp[g])
  ·exact src p g
 ·rw[BM]
  refine List.nodup_append.mpr ⟨I,rn,fun x F y r e=>?_⟩
  subst e
  exact(T x F).2.2 (v x r)
 ·rw[BM]
  intro h
  rcases List.mem_append.mp h with h|h
  ·exact TN (by simp[h])
  ·have:=v L h
   rw[C.eL]at this
   cases this
 ·obtain⟨l,ec,rfl,d1,d2⟩:=dn.split
  have W:a∉roots (ps++j):=by
   rw[BM]
   intro h
   rcases List.mem_append.mp h with h|h
   ·exact A h
   ·exact K.1 (v a h)
  have D:k a=H2 a:=by
   cases e:H2 a with
   |none=>exact absurd e n
   |some o=>exact U a o aL W e
  obtain⟨Ca,at2⟩:=(Dc.EO _ _).mp B.at_
  obtain⟨e,ev,el,ea,X⟩:=build ec k d2 at2 D
  have i:a∉Dc.Ay (l++ec):=fun h=>by
   rcases z a h with h|h
   ·exact n h
   ·exact W h
  have m:Dc.Ay (l++[e])=Dc.Ay l++e.addrs:=by rw[Dc.CJ];simp[Dc.Ay]
  have s:∀c,c∈Dc.Ay (l++[e])->c=a∨c∈Dc.Ay (l++ec):=fun c f=>by
   rw[m]at f
   rw[Dc.CJ]
   rcases List.mem_append.mp f with f|f
   ·exact .inr (List.mem_append_left _ f)
   ·rcases List.mem_cons.mp (X.mem_iff.mp f)with f|f
    ·exact .inl f
    ·exact .inr (List.mem_append_right _ f)
  have M:JY H k (l++[e]):=by
   refine⟨B.same,(Dc.EO _ _).mpr ⟨Ca,by simp only[Dc.Gw];exact⟨ea,trivial⟩⟩,?_,fun c f=>?_,fun c f=>?_⟩
   ·have Y:=B.nd
    rw[Dc.CJ]at Y i
    have:(Dc.Ay l++(a::Dc.Ay ec)).Nodup:=by
     obtain⟨x1,x2,x3⟩:=List.nodup_append.mp Y
     refine List.nodup_append.mpr ⟨x1,List.nodup_cons.mpr ⟨fun h=>i (List.mem_append_right _ h),x2⟩,fun x F y r N=>?_⟩
     subst N
     rcases List.mem_cons.mp r with r|r
     ·exact i (List.mem_append_left _ (by rw[<-r];exact F))
     ·exact x3 x F x r rfl
    rw[m]
    exact((List.Perm.append_left _ X).nodup_iff).mpr this
   ·rcases s c f with rfl|f
    ·intro G u h;rw[D]at h;exact own G u h
    ·exact B.own c f
   ·rcases s c f with rfl|f
    ·exact K.2.1
    ·exact B.new c f
  refine C.bp (l++[e]) k (d1.app (by simp only[BQ];exact⟨ev,el,trivial⟩)) M (fun c f=>?_) (fun b o Z O h=>?_)
  ·rw[E]
   rcases s c f with rfl|f
   ·exact .inr (by simp)
   ·rcases z c f with h|h
    ·left
     cases q:t c with
     |none=>rfl
     |some o=>
      have P:c≠a:=fun w=>n (by rw[<-w];exact h)
      have Q:c≠L:=fun w=>by rw[w,eL]at h;cases h
      rw[keep c o P Q q]at h
      cases h
    ·rw[BM]at h
     rcases List.mem_append.mp h with h|h
     ·exact .inr (by simp[h])
     ·exact .inl (v c h)
  ·rw[E]at O
   have R:b≠a:=fun w=>O (by simp[w])
   refine U b o Z ?_ (keep b o R Z h)
   rw[BM]
   intro w
   rcases List.mem_append.mp w with w|w
   ·exact O (by simp[w])
   ·rw[v b w]at h;cases h
theorem D_.start {H i:Hp} {L:Addr} {d:Dc} {b:V} (s:AG H i) (m:H L=none) (n:i L=some (.lst [b])) (o:E_ H i b d) (h:d.At H) (sl:d.slim) (ne:b≠.ref L):D_ H i L b d [(b,d)]:=by
 refine⟨s,m,n,fun p c=>by rw[List.mem_singleton.mp c];exact o,fun p c=>by rw[List.mem_singleton.mp c];exact⟨h,sl⟩,?_,?_,fun q u f g z v=>?_⟩
 ·cases b<;>first|exact List.nodup_nil|exact List.nodup_cons.mpr ⟨(fun h=>nomatch h),List.nodup_nil⟩
 ·intro t
  obtain⟨p,c,e⟩:=BW.mp t
  rw[List.mem_singleton.mp c]at e
  exact ne e
 ·cases q with
  |nil=>simp[BQ]at f
  |cons e r=>
   cases r with
   |cons _ _=>simp[BQ]at f
   |nil=>
    simp only[BQ]at f
    have j:Dc.Ay [e]=e.addrs:=by simp[Dc.Ay]
    have l:=g.at_
    simp only[Dc.Gw]at l
    have fn:=g.nd
    rw[j]at fn
    exact⟨e,f.1,f.2.1,g.same,l.1,fn,fun a k=>g.own a (by rw[j];exact k),fun a k=>g.new a (by rw[j];exact k)⟩
theorem D_.done {H a:Hp} {L:Addr} {d:Dc} {f:V} (C:D_ H a L f d []):∃e:Dc,e.val=f/\Dc.DI d e/\JX H a e:=
 C.bp [] a trivial (.nil C.same) (fun c g=>(nomatch g)) fun b o _ _ h=>h
theorem D_.leaf {H j H2:Hp} {L:Addr} {d:Dc} {n v:V} {ps:List (V×Dc)} (C:D_ H j L n d (ps++[(v,.leaf v)])) (keep:∀b o,b≠L->j b=some o->H2 b=some o) (r:H2 L=some (.lst (ps.map (·.1)))):D_ H H2 L n d ps:=by
 have s:Dc.Lf v:=(show v=v/\Dc.Lf v from C.out (v,.leaf v) (by simp)).2
 have k:roots (ps++[(v,Dc.leaf v)])=roots ps:=by
  rw[BM]
  rcases s with⟨i,rfl⟩|⟨x,rfl,_⟩<;>simp[roots,rootOf]
 have nd:=C.nd
 have TN:=C.TN
 rw[k]at nd TN
 refine⟨fun b o e=>keep b o (Ac e C.nL) (C.same b o e),C.nL,r,fun p f=>?_,fun p f=>C.src p (by simp[f]),nd,TN,fun l B D a z E=>?_⟩
 ·refine(C.out p (by simp[f])).up fun c e u h=>keep c u (fun w=>TN ?_) h
  rw[<-w]
  exact BW.mpr ⟨p,f,e⟩
 ·have g:Dc.Ay (l++[.leaf v])=Dc.Ay l:=by rw[Dc.CJ];simp[Dc.Ay,Dc.addrs]
  refine C.bp (l++[.leaf v]) B (D.app (by simp[BQ,Dc.val,Dc.DI])) ⟨a.same,(Dc.EO _ _).mpr ⟨a.at_,by simp only[Dc.Gw,Dc.At];exact⟨s,trivial⟩⟩,by rw[g];exact a.nd,by rw[g];exact a.own,by rw[g];exact a.new⟩ (fun c t=>?_) (fun b o y A h=>?_)
  ·rw[g]at t
   rw[k]
   rcases z c t with h|h
   ·left
    cases q:j c with
    |none=>rfl
    |some o=>
     have m:c≠L:=fun w=>by rw[w,r]at h;cases h
     rw[keep c o m q]at h
     cases h
   ·exact .inr h
  ·rw[k]at A
   exact E b o y A (keep b o y h)
def HX (H:Hp) (Q:VK):Dc->Prop
 | .leaf v=>Q v H
 | .row _ xs=>∀p,H p=none->Q (.ref p) (upd H p (.lst (xs.map Dc.val)))
 | .tab _ ks xs=>∀p,H p=none->Q (.ref p) (upd H p (.dK (Dc.kvs ks xs)))
inductive OE (vs:List V) (H:Hp) (Q:VK) (a:XK):Prop
 |mk (d:Dc) (b:vs=[d.val]) (c:d.At H) (e:HX H Q d):OE vs H Q a
def Ma:Sp:=fun b H Q a=>OE b H Q a
inductive LO (vs:List V) (H:Hp) (Q:VK) (a:XK):Prop
 |mk (d:Dc) (c:vs=[d.val]) (e:d.At H) (f:d.slim) (g:d.size<=900) (h:∀(d':Dc) (b:Hp),JX H b d'->Dc.DI d d'->Q d'.val b):LO vs H Q a
def GU:Sp:=fun b H Q a=>LO b H Q a
theorem HX.of {j H:Hp} {Q:VK} {d:Dc} (s:AG j H) (h:d.At H) (k:∀f g,AG H g->E_ j g f d->(∀a,f=.ref a->H a=none)->Q f g):HX H Q d:=by
 cases d with
 |leaf v=>
  refine k v H (AG.refl H) ⟨rfl,h⟩ fun a e=>?_
  rcases(show Dc.Lf v from h)with⟨i,rfl⟩|⟨x,rfl,_⟩<;>cases e
 |row b l=>exact fun p c=>k _ _ (AG.new c) ⟨p,rfl,AE,s.free c⟩ fun a e=>by cases e;exact c
 |tab b m l=>exact fun p c=>k _ _ (AG.new c) ⟨p,rfl,AE,s.free c⟩ fun a e=>by cases e;exact c
def Dj (ks:List Str) (vs:List V):List (Key×V):=(ks.zip vs).map fun p=>(Sum.inr p.1,p.2)
theorem OF (ks:List Str) (xs:List Dc):Dc.kvs ks xs=Dj ks (xs.map Dc.val):=rfl
theorem Vg {ks:List Str} {vs:List V} (h:ks.length=vs.length):(Dj ks vs).length=ks.length:=by
 unfold Dj
 rw[List.length_map,List.length_zip]
 lia
theorem JZ:∀{ks:List Str} {vs:List V} {j:Nat} {k:Str},ks.length=vs.length->ks.Nodup->ks[j]?=some k->CF (Dj ks vs) (Sum.inr k)=vs[j]?
 |[],_,_,_,_,_,h=>by simp at h
 |y::r,[],_,_,h,_,_=>by simp at h
 |y::r,v::vs,0,k,_,_,h=>by
  simp at h
  subst h
  exact DE rfl
 |y::r,v::vs,j+1,k,hl,nd,h=>by
  obtain⟨b,c⟩:=List.nodup_cons.mp nd
  have a:r[j]?=some k:=by simpa using h
  have ne:¬(Sum.inr y:Key)=Sum.inr k:=fun z=>b (by rw[Sum.inr.inj z];exact ADu a)
  show CF ((Sum.inr y,v)::Dj r vs) (Sum.inr k)=_
  rw[DF ne,JZ (by simpa using hl) c a]
  simp
theorem Vh {ks:List Str} {vs:List V} {j:Nat} {k:Str} (hl:ks.length=vs.length) (nd:ks.Nodup) (h:ks[j]?=some k) (c:V):putK (Dj ks vs) (Sum.inr k) c=Dj ks (vs.set j c):=by
 have e:j<vs.length:=by rw[<-hl];exact(ADs h).1
 have f:CF (Dj ks vs) (Sum.inr k)=some vs[j]:=by rw[JZ hl nd h,ADr e]
 unfold putK
 rw[if_pos (by rw[DG,f];rfl)]
 have gen:∀(ks:List Str) (vs:List V) (j:Nat),ks.length=vs.length->ks.Nodup->ks[j]?=some k->(Dj ks vs).map (fun a=>if a.1=Sum.inr k then(a.1,c)else a)=Dj ks (vs.set j c):=by
  intro ks
  induction ks with
  |nil=>intro vs j _ _ h;simp at h
  |cons y r g=>
   intro vs j hl nd h
   cases vs with
   |nil=>simp at hl
   |cons v vs=>
    obtain⟨b,i⟩:=List.nodup_cons.mp nd
    cases j with
    |zero=>
     simp at h
     subst h
     have l:(Dj r vs).map (fun a=>if a.1=Sum.inr y then(a.1,c)else a)=Dj r vs:=by
      have:∀p∈Dj r vs,(fun a:Key×V=>if a.1=Sum.inr y then(a.1,c)else a) p=id p:=fun p m=>by
       obtain⟨q,n,rfl⟩:=List.mem_map.mp m
       have o:q.1∈r:=(List.of_mem_zip n).1
       exact if_neg fun z=>b (by rw[<-Sum.inr.inj z];exact o)
      rw[List.map_congr_left this,List.map_id]
     show(if(Sum.inr y:Key)=Sum.inr y then(Sum.inr y,c)else(Sum.inr y,v))::(Dj r vs).map _=(Sum.inr y,c)::Dj r vs
     rw[if_pos rfl,l]
    |succ j=>
     have d:r[j]?=some k:=by simpa using h
     have ne:¬(Sum.inr y:Key)=Sum.inr k:=fun z=>b (by rw[Sum.inr.inj z];exact ADu d)
     show(if(Sum.inr y:Key)=Sum.inr k then(Sum.inr y,c)else(Sum.inr y,v))::(Dj r vs).map _=(Sum.inr y,v)::Dj r (vs.set j c)
     rw[if_neg ne,g vs j (by simpa using hl) i d]
 exact gen ks vs j hl nd h
theorem reorder {ks ss:List Str} {ec:List Dc} (p:ss.Perm ks) (nd:ss.Nodup) (l:ec.length=ss.length):∃es:List Dc,es.Perm ec/\es.length=ks.length/\∀(j t:Nat) k,ks[j]?=some k->ss[t]?=some k->es[j]?=ec[t]?:=by
 have b:∀k∈ks,∃x,(ss.zip ec).lookup k=some x:=fun k o=>let⟨x,h,_⟩:=Dc.Km l.symm (p.mem_iff.mpr o);⟨x,h⟩
 have gen:∀ks:List Str,(∀k∈ks,∃x,(ss.zip ec).lookup k=some x)->∃es:List Dc,es.map some=ks.map fun k=>(ss.zip ec).lookup k:=by
  intro ks
  induction ks with
  |nil=>exact fun _=>⟨[],rfl⟩
  |cons k r q=>
   intro h
   obtain⟨x,s⟩:=h k List.mem_cons_self
   obtain⟨es,c⟩:=q fun u d=>h u (List.mem_cons_of_mem _ d)
   exact⟨x::es,by simp[c,s]⟩
 obtain⟨es,e⟩:=gen ks b
 have a:ec.map some=ss.map fun k=>(ss.zip ec).lookup k:=by
  refine List.ext_getElem? fun i=>?_
  rw[List.getElem?_map,List.getElem?_map]
  cases f:ss[i]? with
  |none=>
   have:ec[i]?=none:=List.getElem?_eq_none_iff.mpr (by rw[l];exact List.getElem?_eq_none_iff.mp f)
   rw[this]
   rfl
  |some k=>
   have g:i<ec.length:=by rw[l];exact(ADs f).1
   rw[ADr g]
   show some (some ec[i])=some ((ss.zip ec).lookup k)
   rw[Dc.Vc ss ec i nd f (ADr g)]
 refine⟨es,?_,?_,fun j t k v c=>?_⟩
 ·have w:(es.map some).Perm (ec.map some):=by rw[e,a];exact(p.map _).symm
  have y:=w.filterMap id
  simpa using y
 ·have:=congrArg List.length e
  simpa using this
 ·have m:=congrArg (fun z=>z[j]?) e
  simp only[List.getElem?_map,v]at m
  have n:=congrArg (fun z=>z[t]?) a
  simp only[List.getElem?_map,c]at n
  have A:es[j]?.map some=ec[t]?.map some:=m.trans n.symm
  cases B:es[j]?<;>cases C:ec[t]?<;>simp_all
theorem OG {xs ys:List Dc} (p:xs.Perm ys):(Dc.Ay xs).Perm (Dc.Ay ys):=by
 induction p with
 |nil=>exact .refl _
 |cons x _ a=>simp only[Dc.Ay];exact a.append_left _
 |swap x y l=>
  simp only[Dc.Ay,<-List.append_assoc]
  exact(List.perm_append_comm).append_right _
 |trans _ _ b c=>exact b.trans c
theorem Vi {H:Hp} {xs ys:List Dc} (p:xs.Perm ys) (h:Dc.Gw H ys):Dc.Gw H xs:=by
 have gen:∀l:List Dc,(∀x∈l,x.At H)->Dc.Gw H l:=by
  intro l
  induction l with
  |nil=>intro _;trivial
  |cons x r a=>intro h;simp only[Dc.Gw];exact⟨h x List.mem_cons_self,a fun y b=>h y (List.mem_cons_of_mem _ b)⟩
 exact gen xs fun x c=>Dc.FN h x (p.mem_iff.mp c)
theorem OH:∀{xs ys:List Dc},xs.length=ys.length->(∀(i:Nat) x y,xs[i]?=some x->ys[i]?=some y->Dc.DI x y)->Dc.CS xs ys
 |[],[],_,_=>by simp[Dc.CS]
 |[],_::_,h,_=>by simp at h
 |_::_,[],h,_=>by simp at h
 |x::r,y::t,h,k=>by
  simp only[Dc.CS]
  exact⟨k 0 x y rfl rfl,OH (by simpa using h) fun i a b c d=>k (i+1) a b (by simpa using c) (by simpa using d)⟩
theorem TQ {H b:Hp} {d:Dc} {a:V} (c:d.At H) (o:E_ H b a d) {L:Addr} (e:a=.ref L):b L≠none:=(E_.root (p:=(a,d)) o e).1
theorem GV {cs:List V} {xs:List Dc} {c:V} {x:Dc} {i:Nat} (l:cs.length=i) (a:xs[i]?=some x):(cs++[c]).zip xs=cs.zip xs++[(c,x)]:=by
 induction cs generalizing xs i with
 |nil=>
  cases xs with
  |nil=>simp at a
  |cons y t=>
   simp at l
   subst l
   simp at a
   subst a
   simp
 |cons z r b=>
  cases xs with
  |nil=>simp at a
  |cons y t=>
   cases i with
   |zero=>simp at l
   |succ i=>
    simp only[List.cons_append,List.zip_cons_cons]
    rw[b (by simpa using l) (by simpa using a)]
namespace Dc
inductive Eqv:Dc->Dc->Prop where
 |leaf (v:V):Eqv (leaf v) (leaf v)
 |row {a b:Addr} {xs ys:List Dc} (l:xs.length=ys.length) (h:∀(i:Nat) x y,xs[i]?=some x->ys[i]?=some y->Eqv x y):Eqv (row a xs) (row b ys)
 |tab {a b:Addr} {ks ls:List Str} {xs ys:List Dc} (p:ks.Perm ls) (h:∀k x y,(ks.zip xs).lookup k=some x->(ls.zip ys).lookup k=some y->Eqv x y):Eqv (tab a ks xs) (tab b ls ys)
theorem gC {ks:List Str}:∀{xs ys:List Dc},CS xs ys->∀{k:Str} {x y:Dc},(ks.zip xs).lookup k=some x->(ks.zip ys).lookup k=some y->∃i:Nat,xs[i]?=some x/\ys[i]?=some y:=by
 induction ks with
 |nil=>intro xs ys _ k x y h;simp at h
 |cons z r d=>
  intro xs ys c k x y a b
  cases xs with
  |nil=>simp at a
  |cons j xs=>
   cases ys with
   |nil=>simp at b
   |cons l ys=>
    simp only[CS]at c
    simp only[List.zip_cons_cons,List.lookup_cons]at a b
    by_cases e:k=z
    ·subst e
     simp at a b
     exact⟨0,by simp[a],by simp[b]⟩
    ·have:(k==z)=false:=by simpa using e
     rw[this]at a b
     obtain⟨i,f,g⟩:=d c.2 a b
     exact⟨i+1,by simpa using f,by simpa using g⟩
inductive Wf:Dc->Prop where
 |leaf (v:V):Wf (leaf v)
 |row {a:Addr} {xs:List Dc} (h:∀x∈xs,Wf x):Wf (row a xs)
 |tab {a:Addr} {ks:List Str} {xs:List Dc} (l:ks.length=xs.length) (n:ks.Nodup) (h:∀x∈xs,Wf x):Wf (tab a ks xs)
def ix (ks:List Str) (k:Str):Nat:=ks.findIdx (·==k)
def YH:Dc->List V->Dc->Dc
 |_,[],n=>n
 |row a xs,.int i::r,n=>row a (match xs[i.toNat]? with|some x=>xs.set i.toNat (YH x r n)|none=>xs)
 |tab a ks xs,.str k::r,n=>tab a ks (match xs[ix ks k]? with|some x=>xs.set (ix ks k) (YH x r n)|none=>xs)
 |d,_::_,_=>d
def room:Dc->V->Bool
 |row _ xs,.int i=>decide (0<=i)&&decide (i<=(xs.length:Int))
 |tab _ ks _,.str k=> !ks.contains k
 |_,_=>false
def mD:Dc->V->Dc->Dc
 |row a xs,.int i,v=>row a (xs.take i.toNat++v::xs.drop i.toNat)
 |tab a ks xs,.str k,v=>tab a (ks++[k]) (xs++[v])
 |d,_,_=>d
def mE:Dc->V->Dc
 |row a xs,.int i=>row a (xs.eraseIdx i.toNat)
 |tab a ks xs,.str k=>tab a (ks.eraseIdx (ix ks k)) (xs.eraseIdx (ix ks k))
 |d,_=>d
end Dc
namespace Dc
end Dc
namespace Dc
end Dc
inductive Vj (vs:List V) (H:Hp) (Q:VK) (a:XK):Prop
 |mk (d:Dc) (z:V) (b:vs=[d.val,z]) (c:d.At H) (e:Dc.IB z) (f:Q (.bl (d.sub [z]).isSome) H):Vj vs H Q a
inductive Vk (vs:List V) (H:Hp) (Q:VK) (a:XK):Prop
 |mk (d:Dc) (t:Addr) (xs:List V) (e:Dc) (b:vs=[d.val,.ref t]) (c:d.At H) (f:H t=some (.tup xs)) (g:(∀z∈xs,Dc.IB z)) (h:d.sub xs=some e) (i:Q e.val H):Vk vs H Q a
inductive TR (vs:List V) (H:Hp) (Q:VK) (a:XK):Prop
 |mk (d:Dc) (t:Addr) (us:List V) (b:V) (e:Dc) (f:vs=[d.val,.ref t]) (g:d.At H) (h:H t=some (.tup (us++[b]))) (i:(∀z∈us++[b],Dc.IB z)) (j:d.sub us=some e) (k:∀c,AG H c->Q e.val c):TR vs H Q a
inductive YI (vs:List V) (H:Hp) (Q:VK) (a:XK):Prop
 |mk (d:Dc) (t:Addr) (us:List V) (b:V) (e:Dc) (x:Dc) (f:vs=[d.val,.ref t]) (g:d.At H) (h:H t=some (.tup (us++[b]))) (i:(∀z∈us++[b],Dc.IB z)) (j:d.sub us=some e) (k:e.sub [b]=some x) (l:∀c,AG H c->Q e.val c):YI vs H Q a
inductive YJ (vs:List V) (H:Hp) (Q:VK) (a:XK):Prop
 |mk (d:Dc) (z:V) (b:vs=[d.val,z]) (c:d.At H) (e:Dc.IB z) (f:Q (.bl (d.room z)) H):YJ vs H Q a
inductive bq (vs:List V) (H:Hp) (Q:VK) (b:XK):Prop
 |mk (d:Dc) (v:Dc) (t:Addr) (us:List V) (a:V) (e:Dc) (h:vs=[d.val,.ref t,v.val]) (i:d.At H) (j:d.slim) (k:d.size<=800) (l:v.At H) (m:v.slim) (n:v.size<=900) (o:H t=some (.tup (us++[a]))) (p:(∀z∈us++[a],Dc.IB z)) (q:d.sub us=some e) (f:e.room a=true) (g:∀(d':Dc) (c:Hp),JX H c d'->Dc.Eqv (d.YH us (e.mD a v)) d'->Q d'.val c):bq vs H Q b
inductive Vl (vs:List V) (H:Hp) (Q:VK) (b:XK):Prop
 |mk (d:Dc) (t:Addr) (us:List V) (a:V) (e:Dc) (x:Dc) (g:vs=[d.val,.ref t]) (h:d.At H) (i:d.slim) (j:d.size<=900) (k:H t=some (.tup (us++[a]))) (l:(∀z∈us++[a],Dc.IB z)) (m:d.sub us=some e) (n:e.sub [a]=some x) (o:∀(q:Addr) (d' c:Dc) (f:Hp),JY H f [d',c]->f q=some (.tup [d'.val,c.val])->Dc.Eqv (d.YH us (e.mE a)) d'->Dc.Eqv x c->Q (.ref q) f):Vl vs H Q b
inductive Vm (vs:List V) (H:Hp) (Q:VK) (a:XK):Prop
 |mk (c:Int) (k:Nat) (d:vs=[.int c,.int (k:Int)]) (e:k<=1000) (f:∀v b,RX v->AG H b->Q v b):Vm vs H Q a
inductive TU (vs:List V) (H:Hp) (Q:VK) (a:XK):Prop
 |mk (c:Int) (d:vs=[.int c]) (e:∀(p:Addr) (ys:List Str) (b:Hp),AG H b->H p=none->b p=some (.lst (ys.map V.str))->ys.length=6->ys.Nodup->(∀y∈ys,CB y=true)->Q (.ref p) b):TU vs H Q a
section
variable{X:Cx} {CX:Sk} {k:Nat} {f:Addr} {fd:FuncData} {ps:List Str} {ds:List Value} {Xj:List V} {sp:Sp} {E:XK} {x:Str} {p pos:Pos} {e:Expr} {es:List Expr} {t:TA} {tf:TE}
theorem Ja (i:PE X (.Name x p) tf) (F:BG X.prog X.w X.K X.mg X.base CX k f fd ps sp) (j:Al k X.A) (l:PySem.W.keepIn X.K (.ref f)=true) (m:Binds X.K fd ps ds) (n:Vals Xj ds) (o:Passes CX X E)
  (y:PA X (e::es) t) (z:starEach (e::es) X.env=(false,eval e X.env)::starEach es X.env:=by rfl) (b:(backTo pos (starEach es X.env)).any (·.1)=false:=by rfl):
  PE X (.Call (.Name x p) (e::es) [] pos) (fun a H Q=>tf a H fun v c=>v=.ref f/\Uc sp Xj E t a c Q):=by
 intro pins s a H Q I h
 refine wpAny_Call_Name_kw (BZ (i pins s a H _ I h) fun u B ⟨v,C,d,D,G,q⟩=>?_)
 subst G
 cases(show u=Value.ref f from D)
 refine PySem.W.callWith_K (h₀:=X.base) d.ok.mod.eO l (BZ (y pos pins B a C _ d q) fun L M J=>J.elim fun N c g r q=>⟨g.GB,?_⟩) z b
 exact Ud F j m n o g r q
end
inductive OI (c:Addr) (vs:List V) (H:Hp) (Q:VK) (a:XK):Prop
 |mk (d:Dc) (e:vs=[d.val,.ref c]) (f:d.At H) (g:d.slim) (h:d.size<=900) (i:∀(p:Addr) (ws:List Dc) (b:Hp),AG H b->H p=none->b p=some (.lst (ws.map Dc.val))->ws.length=d.size->Q (.ref p) b):OI c vs H Q a
inductive br (K:ADv) (H:Hp):Nat->V->V->Prop
 |flat {n:Nat} {x y:V} (f:CI x=true) (g:CI y=true) (e:MN x y=true):br K H n x y
 |same {n:Nat} {a:Addr}:br K H n (.ref a) (.ref a)
 |lst {n:Nat} {a b:Addr} {xs ys:List V} (c:Ap K H a xs) (d:Ap K H b ys) (l:xs.length=ys.length) (h:∀(i:Nat) u v,xs[i]?=some u->ys[i]?=some v->br K H n u v):br K H (n+1) (.ref a) (.ref b)
 |tup {n:Nat} {a b:Addr} {xs ys:List V} (c:BY K H a xs) (d:BY K H b ys) (l:xs.length=ys.length) (h:∀(i:Nat) u v,xs[i]?=some u->ys[i]?=some v->br K H n u v):br K H (n+1) (.ref a) (.ref b)
inductive YK (K:ADv) (H:Hp) (n:Nat):List V->List V->Prop
 |nil:YK K H n [] []
 |cons {x y:V} {xs ys:List V} (h:br K H n x y) (t:YK K H n xs ys):YK K H n (x::xs) (y::ys)
section
variable{X:Cx} {pins:List (Addr×Obj)} {σ:St} {H:Hp} {s:Shared}
theorem Vn {its:List Value} {j:Nat} {u:Value} (g:its[j]?=some u) (h:j<its.toArray.size):its.toArray[j]=u:=by
 have:=(ADs g).2
 simpa using this
theorem YL {xs:List V} {its:List Value} (r:Vals xs its) {j:Nat} (h:j<its.toArray.size):∃x,xs[j]?=some x/\RelV x its.toArray[j]:=by
 have e:its.toArray.size=xs.length:=by rw[List.size_toArray];exact r.length.symm
 have a:j<xs.length:=by rw[<-e];exact h
 obtain⟨u,g,b⟩:=r.get (ADr a)
 exact⟨_,ADr a,by rw[Vn g h];exact b⟩
inductive mF (K:ADv) (c:Bool) (x y:V) (H:Hp) (Q:VK):Prop
 |mk (a b:Addr) (xs ys:List V) (d:x=.ref a) (e:y=.ref b) (f:Ap K H a xs) (g:Ap K H b ys) (h:YK K H 20 xs ys) (q:Q (.bl c) H):mF K c x y H Q
end
def mG:Key->PyData
 | .inl i=>.int i
 | .inr x=>.str x
mutual
inductive IX (H:Hp):V->PyData->Prop
 |BO:IX H .BO .none
 |bl (b:Bool):IX H (.bl b) (.bool b)
 |int (i:Int):IX H (.int i) (.int i)
 |str (x:Str):IX H (.str x) (.str x)
 |lst {a:Addr} {xs:List V} {c:List PyData} (h:Rd H a (.lst xs)) (r:EU H xs c):IX H (.ref a) (.list c)
 |tup {a:Addr} {xs:List V} {c:List PyData} (h:H a=some (.tup xs)) (r:EU H xs c):IX H (.ref a) (.tuple c)
 |BF {a:Addr} {kvs:List (Key×V)} {c:List PyData} (h:Rd H a (.dK kvs)) (r:EU H (kvs.map (·.2)) c):IX H (.ref a) (.dict ((kvs.map fun p=>mG p.1).zip c))
 |NK {v:V} {d:PyData} (r:∀e,AG H e->∀(P:Program) (w:World) (h:Heap),Fj P w e h->∀u,RelV v u->∃as,Reads h u d as/\∀b∈as,∃o,e b=some o):IX H v d
inductive EU (H:Hp):List V->List PyData->Prop
 |nil:EU H [] []
 |cons {x:V} {d:PyData} {xs:List V} {a:List PyData} (h:IX H x d) (t:EU H xs a):EU H (x::xs) (d::a)
end
theorem YM {a:Type} {kvs:List (a×V)} {vs:List (a×Value)} (r:KV kvs vs):Vals (kvs.map (·.2)) (vs.map (·.2)):=by
 unfold KV at r
 induction r with
 |nil=>exact .nil
 |cons h _ b=>exact .cons h.2 b
inductive bu (xs:List V) (H:Hp) (Q:VK):Prop
 |mk (a:Addr) (d:PyData) (e:xs=[.ref a]) (h:IX H (.ref a) d) (s:d.showable=true) (z:d.shown.length<=sizeLine) (dp:d.depth<=150) (q:Q (.str d.shown) H):bu xs H Q
theorem Cw {x:V} {r:List V}:Na (x::r) 0=some x:=Aq (j:=0) rfl
theorem Ca {x y:V} {r:List V}:Na (x::y::r) 1=some y:=Aq (j:=1) rfl
theorem at2 {x y z:V} {r:List V}:Na (x::y::z::r) 2=some z:=Aq (j:=2) rfl
theorem Cr {c:Bool} {A B:Prop} (a:c=true->A) (b:c=false->B):if c=true then A else B:=by
 cases c with
 |true=>exact Bs (a rfl)
 |false=>exact BJ (b rfl)
theorem Mb {t u:TS} {D:Ends} {σ:St} {H:Hp} (R:St->Hp->Prop) (k:∀a b,R a b->u D a b) (h:(∀a b,R a b->u D a b)->t {D with nx:=u D} σ H):Pp t u D σ H:=h k
def yq:V->Bool
 | .str _=>false
 |_=>true
def bx (zs xs:List V):List V:=
 match zs[xs.length-1]?,xs.getLast? with
 |some (.int i),some (.int j)=>if Kl (zs.take (xs.length-1)) xs.dropLast=true/\(j<i∨(i=j/\xs.length<zs.length))then zs.set (xs.length-1) (.int (i+1))else zs
 |_,_=>zs
def mH (w:Str) (xs zs:List V):List V:=if w="copy"then zs else if w="move"then bx zs xs else xs
def steps (xs:List V):Prop:=∀z∈xs,Dc.IB z
def b_:List Str:=["put","take","move","copy","change","ask","has","lacks","is"]
structure Rw (H:Hp) (r:V) (w:Str) (xs zs:List V) (p:Addr):Prop where
 ex:∃(a:Addr) (rest:List V),r=.ref a/\H a=some (.tup (.str w::.ref p::rest))/\(w="copy"∨w="move"->∃p2,rest=[.ref p2]/\H p2=some (.tup zs))
 hp:H p=some (.tup xs)
 sx:steps xs
 sz:steps zs
 lx:xs.length<=100
 lz:zs.length<=100
 wd:w∈b_
 nx:w="put"∨w="lacks"∨w="take"∨w="move"->xs≠[]
 nz:w="copy"∨w="move"->zs≠[]
def QU (H:Hp) (v:V) (ys:List V):Prop:=∃(t h:Addr) (l:V),v=.ref t/\H t=some (.tup [.ref h,l])/\H h=some (.tup ys.dropLast)/\ys.getLast?=some l
def YN:List Str:=["put","copy","move"]
abbrev Vo:List V:=YN.map V.str
theorem GW (w:Str):∀ws:List Str,Pe (.str w) (ws.map V.str)=decide (w∈ws)
 |[]=>by simp[Pe]
 |x::ws=>by
  have a:=GW w ws
  simp only[Pe,List.map_cons,List.any_cons]at a⊢
  rw[a]
  by_cases e:w=x
  ·subst e;simp[MN]
  ·have b:¬x=w:=fun z=>e z.symm
   simp[MN,e,b]
def Jb:List Value->List Str->Bool
 |[],[]=>true
 | .str x _::us,y::ys=>x==y&&Jb us ys
 |_,_=>false
def YO (K:ADv) (a:Addr) (ws:List Str):Bool:=match K.lookup a with
 |some o=>o.cls==.type "tuple"&&(match o.data with
  | .seq b _=>decide (b.size<=1000)&&Jb b.toList ws
  |_=>false)
 |none=>false
theorem LQ:∀{us:List Value} {ws:List Str},Jb us ws=true->Vals (ws.map V.str) us
 |[],[],_=>.nil
 |[],_::_,h=>by simp[Jb]at h
 |u::us,[],h=>by cases u<;>simp[Jb]at h
 |u::us,y::ys,h=>by
  cases u with
  |str x t=>
   simp only[Jb,Bool.and_eq_true,beq_iff_eq]at h
   obtain⟨rfl,h⟩:=h
   exact .cons ⟨t,rfl⟩ (LQ h)
  |_=>simp[Jb]at h
theorem BY.yr {K:ADv} {a:Addr} {ws:List Str} (h:YO K a ws=true) (H:Hp):BY K H a (ws.map V.str):=by
 unfold YO at h
 split at h
 ·rename_i o lk
  simp only[Bool.and_eq_true,beq_iff_eq]at h
  obtain⟨c,h⟩:=h
  split at h
  ·rename_i b n d
   simp only[Bool.and_eq_true,decide_eq_true_eq]at h
   exact .inr ⟨o,b,n,lk,c,d,Ab h.1,LQ h.2⟩
  ·cases h
 ·cases h
def yt (H:Hp) (v:V) (w:Str) (xs zs:List V):Prop:=if Pe (.str w) Vo then QU H v (mH w xs zs)else v=.BO
inductive Mc (H:Hp):List Addr->List (List V)->Prop
 |nil:Mc H [] []
 |cons {a:Addr} {xs:List V} {as:List Addr} {b:List (List V)} (h:H a=some (.tup xs)) (t:Mc H as b):Mc H (a::as) (xs::b)
structure Nd (H H':Hp) (l:Addr) (ps:List Addr) (yu:List (List V)):Prop where
 same:AG H H'
 nl:H l=none
 hl:H' l=some (.lst (ps.map V.ref))
 tu:Mc H' ps yu
def yw (H:Hp) (v:V) (w:Str) (xs zs:List V):Prop:=if w="lacks"then QU H v xs else if Pe (.str w) Vo=true/\yq ((mH w xs zs).getLastD .BO)=false then QU H v (mH w xs zs)else v=.BO
def NoT (H:Hp) (v:V):Prop:=v=.BO∨∃(a:Addr) (b:List V),v=.ref a/\H a=some (.tup b)
def low (xs:List V):Prop:=∀z∈xs,∀i:Int,z=.int i->i.natAbs<1000
def ja (H:Hp) (vs:List V):Prop:=∀v∈vs,∃(p:Addr) (a:List V),v=.ref p/\H p=some (.tup a)/\steps a/\a≠[]/\a.length<=20/\low a
def vc (H:Hp) (v:V):Prop:=∃d:PyData,IX H v d/\d.showable=true/\d.shown.length<=sizeLine/\d.depth<=100
def yx (H:Hp) (v:V) (b n:Nat):Prop:=∃D:PyData,IX H v D/\D.showable=true/\D.leavesShort 2000=true/\D.bulk<=b/\D.depth<=n
def yy (H:Hp) (xs:List V) (b n:Nat):Prop:=∃a:List PyData,EU H xs a/\PyData.showableAll a=true/\PyData.leavesShortAll 2000 a=true/\PyData.bulkAll a<=b/\PyData.depthAll a<=n
section
variable{prog:Program} {w:World} {A:Around} {E:Value->Shared->Prop} {s:Shared}
abbrev TV (h:Heap) (z TI TO T:Addr) (f:Bool):Prop:=
 h.get? z=some {cls:=.type "zip",dict:=none,data:=.fields #[rawInt T,.bool f,.bool false,.ref TI,.ref TO],slots:= #[]}
theorem OJ {z TI TO T:Addr} {f:Bool} {e:Obj} {Q:Bool->Shared->Prop} (hz:TV s.heap z TI TO T f) (g:s.heap.get? T=some e)
  (d:∀h',TV h' z TI TO T true->Heap.SameBut z s.heap h'->Q false {s with heap:=h'}):wpAny (model prog w) A (Builtin.SmallTypes.ownedTupleIsFree (.ref z)) Q E s:=by
 unfold Builtin.SmallTypes.ownedTupleIsFree
 refine wpAny_bind (wpAny_field hz rfl (x:=rawInt T) rfl ?_)
 show wpAny _ _ (loadIfAlive ((T:Int).toNat)>>=_) _ _ _
 rw[Int.toNat_natCast]
 refine wpAny_bind (PySem.W.kdx_alive g ?_)
 show wpAny _ _ (field (.ref z) 1>>=_) _ _ _
 refine wpAny_bind (wpAny_field hz rfl (x:=.bool f) rfl ?_)
 cases f with
 |true=>
  show wpAny _ _ (pure false) _ _ _
  exact wpAny_pure (d s.heap hz (Heap.SameBut.refl _ _))
 |false=>
  show wpAny _ _ (setField (.ref z) 1 (.bool true)>>=_) _ _ _
  exact wpAny_bind (wpAny_setField_rec hz (by simp) fun c a b=>wpAny_pure (d c a b))
theorem Kn {z TI TO h i l1 l2 T:Addr} {f:Bool} {u:Obj} {k1 k2:Nat} {xs ys:Array Value} {x y:Value} {Q:Value->Shared->Prop} (D:ZipApart z TI TO h i l1 l2)
  (hz:TV s.heap z TI TO T f) (B:s.heap.get? T=some u) (n:IsPair s.heap TI (.ref h) (.ref i))
  (C:s.heap.IsListIter h l1 k1) (F:s.heap.IsListIter i l2 k2) (p:s.heap.IsList l1 xs) (q:s.heap.IsList l2 ys) (G:xs[k1]?=some x) (H:ys[k2]?=some y)
  (I:∀h',TV h' z TI TO T true->h'.IsListIter h l1 (k1+1)->h'.IsListIter i l2 (k2+1)->IsPair h' s.heap.objs.size x y->h'.objs.size=s.heap.objs.size+1->
   (∀c o,c≠z->c≠h->c≠i->s.heap.get? c=some o->h'.get? c=some o)->Q (.ref s.heap.objs.size) {s with heap:=h'}):
  wpAny (model prog w) A (Builtin.«zip.__next__» ⟨[.ref z],[]⟩) (fun fin J=>∃v,fin=.done (.ret v)/\Q v J) E s:=by
 show wpAny _ _ (field (.ref z) 2>>=_) _ _ _
 refine wpAny_bind (wpAny_field hz rfl (x:=.bool false) rfl ?_)
 show wpAny _ _ (field (.ref z) 3>>=_) _ _ _
 refine wpAny_bind (wpAny_field hz rfl (x:=.ref TI) rfl ?_)
 refine wpAny_bind (wpAny_seqItems n rfl ?_)
 show wpAny _ _ (Builtin.SmallTypes.ownedTupleIsFree (.ref z)>>=_) _ _ _
 refine wpAny_bind (OJ hz B fun r j a=>?_)
 simp only[Bool.false_eq_true,if_false]
 refine wpAny_bind ?_
 rw[<-Array.forIn_toList]
 show wpAny _ _ (forIn [Value.ref h,Value.ref i] _ _) _ _ _
 rw[List.forIn_cons]
 refine wpAny_bind (wpAny_bind (wpAny_holding ?_))
 show wpAny _ _ (Builtin.SmallTypes.nextOf (.ref h)>>=_) _ _ _
 refine wpAny_bind (wpAny_nextOf_list_item (C.extBut a.extBut D.i1z) (p.extBut a.extBut D.l1z) G fun t k b=>wpAny_pure ?_)
 refine wpAny_pure ?_
 dsimp only
 rw[List.forIn_cons]
 refine wpAny_bind (wpAny_bind (wpAny_holding ?_))
 show wpAny _ _ (Builtin.SmallTypes.nextOf (.ref i)>>=_) _ _ _
 refine wpAny_bind (wpAny_nextOf_list_item ((F.extBut a.extBut D.i2z).extBut b.extBut D.i12.symm) ((q.extBut a.extBut D.l2z).extBut b.extBut D.l2i1) H fun g l d=>wpAny_pure ?_)
 refine wpAny_pure ?_
 dsimp only
 rw[List.forIn_nil]
 refine wpAny_pure ?_
 show wpAny _ _ (newTuple [x,y]>>=_) _ _ _
 refine wpAny_bind (wpAny_newTuple ?_)
 have m:g.objs.size=s.heap.objs.size:=by rw[d.1,b.1,a.1]
 refine wpAny_pure ⟨_,rfl,?_⟩
 show Q (.ref g.objs.size) _
 rw[m]
 have up:∀c o,c≠z->c≠h->c≠i->s.heap.get? c=some o->(g.push {cls:=.type "tuple",data:=.seq #[x,y]}).get? c=some o:=fun c o c1 c2 c3 e=>
  Heap.get?_push_of_some _ (d.extBut _ _ c3 (b.extBut _ _ c2 (a.extBut _ _ c1 e)))
 refine I _ (Heap.get?_push_of_some _ (d.extBut _ _ D.i2z.symm (b.extBut _ _ D.i1z.symm j))) ((k.extBut d.extBut D.i12).at fun o e=>Heap.get?_push_of_some _ e) (l.at fun o e=>Heap.get?_push_of_some _ e) ?_ (by rw[Heap.size_push,m]) up
 have this:(g.push {cls:=.type "tuple",data:=.seq #[x,y]}).get? g.objs.size=some {cls:=.type "tuple",data:=.seq #[x,y]}:=Heap.get?_push_size _ rfl
 rw[m]at this
 exact this
theorem Md {z TI TO d i l1 l2 T:Addr} {f:Bool} {n:Obj} {k1:Nat} {xs:Array Value} {Q:Fin->Shared->Prop} (p:A.handled=none) (D:ZipApart z TI TO d i l1 l2)
  (hz:TV s.heap z TI TO T f) (q:s.heap.get? T=some n) (j:IsPair s.heap TI (.ref d) (.ref i))
  (r:s.heap.IsListIter d l1 k1) (k:s.heap.IsList l1 xs) (g:xs[k1]?=none)
  (t:∀h' e,(∀c o,c≠z->c≠d->s.heap.get? c=some o->h'.get? c=some o)->(∃o,h'.get? e=some o/\o.cls=.type "StopIteration")->E (.ref e) {s with heap:=h'}):
  wpAny (model prog w) A (Builtin.«zip.__next__» ⟨[.ref z],[]⟩) Q E s:=by
 show wpAny _ _ (field (.ref z) 2>>=_) _ _ _
 refine wpAny_bind (wpAny_field hz rfl (x:=.bool false) rfl ?_)
 show wpAny _ _ (field (.ref z) 3>>=_) _ _ _
 refine wpAny_bind (wpAny_field hz rfl (x:=.ref TI) rfl ?_)
 refine wpAny_bind (wpAny_seqItems j rfl ?_)
 show wpAny _ _ (Builtin.SmallTypes.ownedTupleIsFree (.ref z)>>=_) _ _ _
 refine wpAny_bind (OJ hz q fun m l a=>?_)
 simp only[Bool.false_eq_true,if_false]
 refine wpAny_bind ?_
 rw[<-Array.forIn_toList]
 show wpAny _ _ (forIn [Value.ref d,Value.ref i] _ _) _ _ _
 rw[List.forIn_cons]
 refine wpAny_bind (wpAny_bind (wpAny_holding ?_))
 show wpAny _ _ (Builtin.SmallTypes.nextOf (.ref d)>>=_) _ _ _
 refine wpAny_bind (wpAny_nextOf_list_end p (r.extBut a.extBut D.i1z) (k.extBut a.extBut D.l1z) g fun h e b u=>t h e (fun c o c1 c2 x=>b _ _ c2 (a.extBut _ _ c1 x)) u)
structure cA (h:Heap) (z TI TO i1 i2 l1 l2 S:Addr) (i:Nat) (xs ys:Array Value):Prop where
 st:(i=0/\IsZip h z TI TO .none/\∃a b,IsPair h TO a b)∨∃T f oT,TV h z TI TO T f/\h.get? T=some oT/\T≠z/\T≠i1/\T≠i2/\T≠S
 ti:IsPair h TI (.ref i1) (.ref i2)
 h1:h.IsListIter i1 l1 i
 h2:h.IsListIter i2 l2 i
 L1:h.IsList l1 xs
 L2:h.IsList l2 ys
theorem cA.keep {h h':Heap} {z TI TO d g l1 l2 S:Addr} {i:Nat} {xs ys:Array Value} (x:cA h z TI TO d g l1 l2 S i xs ys) (c:∀b o,b≠S->h.get? b=some o->h'.get? b=some o) (n:z≠S/\TI≠S/\TO≠S/\d≠S/\g≠S/\l1≠S/\l2≠S):cA h' z TI TO d g l1 l2 S i xs ys:=by
 obtain⟨st,l,m,p,q,L2⟩:=x
 refine⟨?_,c _ _ n.2.1 l,m.at fun o e=>c _ o n.2.2.2.1 e,p.at fun o e=>c _ o n.2.2.2.2.1 e,q.at fun o e=>c _ o n.2.2.2.2.2.1 e,L2.at fun o e=>c _ o n.2.2.2.2.2.2 e⟩
 rcases st with⟨e,j,a,b,r⟩|⟨T,f,t,j,u,v,y,B,k⟩
 ·exact .inl ⟨e,c _ _ n.1 j,a,b,c _ _ n.2.2.1 r⟩
 ·exact .inr ⟨T,f,t,c _ _ n.1 j,c _ _ k u,v,y,B,k⟩
theorem Vp {z TI TO g h l1 l2 S:Addr} {i:Nat} {xs ys:Array Value} {x y:Value} {Q:Option Value->Shared->Prop} (D:ZipApart z TI TO g h l1 l2) (st:cA s.heap z TI TO g h l1 l2 S i xs ys) (G:S<s.heap.objs.size) (q:xs[i]?=some x) (r:ys[i]?=some y)
  (t:∀h',cA h' z TI TO g h l1 l2 S (i+1) xs ys->IsPair h' s.heap.objs.size x y->h'.objs.size=s.heap.objs.size+1->(∀c o,c≠z->c≠TO->c≠g->c≠h->s.heap.get? c=some o->h'.get? c=some o)->Q (some (.ref s.heap.objs.size)) {s with heap:=h'}):
  wpAny (model prog w) A (pyNext (.ref z)) Q E s:=by
 obtain⟨st,l,n,p,m,L2⟩:=st
 have lt:∀{c o},s.heap.get? c=some o->s.heap.objs.size≠c:=fun e=>Nat.ne_of_gt (Heap.lt_size e)
 have H:s.heap.objs.size≠g:=by obtain⟨_,e,_⟩:=n;exact lt e
 have I:s.heap.objs.size≠h:=by obtain⟨_,e,_⟩:=p;exact lt e
 rcases st with⟨rfl,j,a,b,J⟩|⟨T,f,K,j,u,v,B,C,L⟩
 ·refine wpAny_pyNext_zip_item D j l J n p m L2 q r fun h' a1 a2 a3 a4 a5 a6 d=>?_
  exact t h' ⟨.inr ⟨s.heap.objs.size,false,_,a1,a5,lt j,H,I,Nat.ne_of_gt G⟩,d _ _ D.TIz D.TITO D.TIi1 D.TIi2 l,a3,a4,m.at fun o e=>d _ o D.l1z D.l1TO D.l1i1 D.l1i2 e,L2.at fun o e=>d _ o D.l2z D.l2TO D.l2i1 D.l2i2 e⟩ a5 a6 d
 ·have k:s.TypeIs (.ref z) "zip":=⟨_,j,rfl⟩
  unfold pyNext
  exact wpAny_bind (wpAny_attempt (wpAny_callSpecial?_slot (name:=Str.ofString "__next__") k F.slot_zip_next
   (wpAny_call_entry F.slot_zip_next k F.entry_zip_next
    (Kn D j u l n p m L2 q r fun h' a1 a3 a4 a5 a6 d=>wpAny_pure (t h' ⟨.inr ⟨T,true,K,a1,d _ _ v B C u,v,B,C,L⟩,d _ _ D.TIz D.TIi1 D.TIi2 l,a3,a4,m.at fun o e=>d _ o D.l1z D.l1i1 D.l1i2 e,L2.at fun o e=>d _ o D.l2z D.l2i1 D.l2i2 e⟩ a5 a6 fun c o c1 _ c3 c4 e=>d c o c1 c3 c4 e)) (F.args_zip_next_1 _))))
theorem Vq {z TI TO h j l1 l2 S:Addr} {i:Nat} {xs ys:Array Value} {Q:Option Value->Shared->Prop} (k:A.handled=none) (D:ZipApart z TI TO h j l1 l2) (st:cA s.heap z TI TO h j l1 l2 S i xs ys) (l:xs[i]?=none)
  (m:∀h',(∀c o,c≠z->c≠TO->c≠h->c≠j->s.heap.get? c=some o->h'.get? c=some o)->Q none {s with heap:=h'}):wpAny (model prog w) A (pyNext (.ref z)) Q E s:=by
 obtain⟨st,n,p,r,q,L2⟩:=st
 rcases st with⟨rfl,g,a,b,t⟩|⟨T,f,C,g,u,G,H,I,J⟩
 ·exact wpAny_pyNext_zip_end k D g n t p r q L2 (.inl l) m
 ·have d:s.TypeIs (.ref z) "zip":=⟨_,g,rfl⟩
  unfold pyNext
  refine wpAny_bind (wpAny_attempt (wpAny_callSpecial?_slot (name:=Str.ofString "__next__") d F.slot_zip_next
   (wpAny_call_entry F.slot_zip_next d F.entry_zip_next (Md k D g u n p q l fun h' e v x=>?_) (F.args_zip_next_1 _))))
  obtain⟨o,y,B⟩:=x
  refine wpAny_bind (wpAny_isInstance (T:="StopIteration") (b:=true) ⟨o,y,B⟩ isSubtype_stop ?_)
  exact wpAny_pure (m _ fun c o c1 _ c3 _ e=>v c o c1 c3 e)
structure ZG (xs ys:Array Value) (lo:Addr) (h:Heap) (as:List Addr):Prop where
 rise:as.Pairwise (·<·)
 above:∀a∈as,lo<a
 there:∀a∈as,a<h.objs.size
 pairs:∀(j:Nat) (a:Addr),as[j]?=some a->∃x y,xs[j]?=some x/\ys[j]?=some y/\IsPair h a x y
end
section
variable{prog:Program} {w:World} {A:Around} {s:Shared} {R:Result->Shared->Prop} {xs ys:Array Value}
end
section
variable{prog:Program} {w:World} {A:Around} {E:Value->Shared->Prop} {s:Shared} {xs ys:Array Value}
end
section
variable{X:Cx} {pins:List (Addr×Obj)} {σ:St} {H:Hp} {s:Shared}
inductive yz (x y:V) (H:Hp) (Q:VK):Prop
 |mk (a b:Addr) (xs ys:List V) (d:x=.ref a) (e:y=.ref b) (f:H a=some (.lst xs)) (g:H b=some (.lst ys)) (l:xs.length=ys.length)
   (q:∀(p:Addr) (ts:List Addr) (c:Hp),AG H c->H p=none->c p=some (.lst (ts.map V.ref))->ts.length=xs.length->(∀(j:Nat) t x y,ts[j]?=some t->xs[j]?=some x->ys[j]?=some y->c t=some (.tup [x,y]))->Q (.ref p) c):yz x y H Q
end
theorem Cj (b:Int) (u:Tok) (l:Addr) (c:Value) (es:Array DictEntry) (n:Nat) (e:Option Addr) (sl:Array (Option Value)):
  Meets (Builtin.«int.__eq__» ⟨[.int b u,.ref l],[]⟩) (fun _ R s=>s.heap.get? l=some {cls:=c,dict:=e,data:=.dict es n,slots:=sl}/\R (.ok (.ret .notImplemented)) s):=
 .of_wp fun prog w A R s h=>by obtain⟨f,g,d,i,os⟩:=s;obtain⟨a,h⟩:=h;wp_walk using wpAny_loadPart' a,wpAny_load a;exact⟨_,rfl,h⟩
theorem Ck (b:Str) (u:Tok) (l:Addr) (c:Value) (es:Array DictEntry) (n:Nat) (e:Option Addr) (sl:Array (Option Value)):
  Meets (Builtin.«str.__eq__» ⟨[.str b u,.ref l],[]⟩) (fun _ R s=>s.heap.get? l=some {cls:=c,dict:=e,data:=.dict es n,slots:=sl}/\R (.ok (.ret .notImplemented)) s):=
 .of_wp fun prog w A R s h=>by obtain⟨f,g,d,i,os⟩:=s;obtain⟨a,h⟩:=h;wp_walk using wpAny_loadPart' a,wpAny_load a;exact⟨_,rfl,h⟩
section
variable{prog:Program} {w:World} {A:Around} {E:Value->Shared->Prop} {s:Shared}
theorem Be {d:Addr} {v:Value} {T:String} {Q:Value->Shared->Prop} (c:s.TypeIs (.ref d) "dict") (e:s.TypeIs v T) (a:isSubtype (.type T) (.type "dict")=pure false) (h:Q .notImplemented s):
  wpAny (model prog w) A (call (.builtin "dict.__eq__") [.ref d,v]) Q E s:=by
 refine wpAny_call_entry PySem.F.slot_dict_eq c PySem.F.entry_dict_eq ?_ (PySem.F.args_dict_eq_2 _ _)
 show wpAny _ _ (Builtin.Dict.dictSlotArgs "__eq__" ⟨[.ref d,v],[]⟩>>=_) _ _ s
 refine wpAny_bind ?_
 unfold Builtin.Dict.dictSlotArgs
 refine wpAny_bind (wpAny_notOrdered_dict c ?_)
 show wpAny _ _ (pure (Value.ref d,v)) _ _ s
 refine wpAny_pure ?_
 refine wpAny_bind (wpAny_isInstance (T:=T) (b:=false) e a ?_)
 simp only[Bool.not_false,if_true]
 exact wpAny_bind (wpAny_rule (wpAny_pure ⟨_,rfl,h⟩))
theorem CY (l b:Addr) (items:Array Value) (es:Array DictEntry) (n e:Nat) (f a:Option Addr) (sl c:Array (Option Value)):
  Meets (Builtin.«list.__eq__» ⟨[.ref l,.ref b],[]⟩) (fun _ R s=>s.heap.get? l=some {cls:=.type "list",dict:=f,data:=.seq items n,slots:=sl}/\s.heap.get? b=some {cls:=.type "dict",dict:=a,data:=.dict es e,slots:=c}/\R (.ok (.ret .notImplemented)) s):=
 .of_wp fun prog w A R s h=>by obtain⟨k,g,d,m,os⟩:=s;obtain⟨i,j,h⟩:=h;have o:=F.sub_dict_list;wp_walk using wpAny_loadPart' i,wpAny_loadPart' j;exact⟨_,rfl,h⟩
structure IC (h:Heap) (b:Addr) (dd:Option Addr) (es:Array DictEntry) (n:Nat) (sl:Array (Option Value)):Prop where
 ho:h.get? b=some {cls:=.type "dict",dict:=dd,data:=.dict es n,slots:=sl}
theorem OK {b:Addr} {d:Option Addr} {es:Array DictEntry} {n:Nat} {sl:Array (Option Value)} (i:Int) (u:Tok) (c:IC s.heap b d es n sl) (e:A.units<cLine):SeqAt.RcAt A s (.int i u) (.ref b) false:=fun prog w E Q h=>
 SeqAt.rc_eq_decline_or (k:=false) (typeIs_int s i u) ⟨_,c.ho,rfl⟩ (by decide) F.sub_dict_int F.slot_int_eq F.slot_dict_eq_refl
  (fun _ a=>call_meets F.slot_int_eq (typeIs_int s i u) F.entry_int_eq (F.args_int_eq_2 _ _) (Cj i u b (.type "dict") es n d sl) ⟨c.ho,a⟩)
  (fun _ a=>Be ⟨_,c.ho,rfl⟩ (typeIs_int s i u) F.sub_int_dict a)
  (fun _ a=>wpAny_of_eq (rfl:isSame (.int i u) (.ref b)=pure false) a) (.inr e) h
theorem OL {b:Addr} {d:Option Addr} {es:Array DictEntry} {n:Nat} {sl:Array (Option Value)} (i:Int) (u:Tok) (c:IC s.heap b d es n sl) (e:A.units<cLine):SeqAt.RcAt A s (.ref b) (.int i u) false:=fun prog w E Q h=>
 SeqAt.rc_eq_decline_or (k:=false) ⟨_,c.ho,rfl⟩ (typeIs_int s i u) (by decide) F.sub_int_dict F.slot_dict_eq F.slot_int_eq_refl
  (fun _ a=>Be ⟨_,c.ho,rfl⟩ (typeIs_int s i u) F.sub_int_dict a)
  (fun _ a=>call_meets F.slot_int_eq_refl (typeIs_int s i u) F.entry_int_eq (F.args_int_eq_2 _ _) (Cj i u b (.type "dict") es n d sl) ⟨c.ho,a⟩)
  (fun _ a=>wpAny_of_eq (rfl:isSame (.ref b) (.int i u)=pure false) a) (.inr e) h
theorem OM {b:Addr} {d:Option Addr} {es:Array DictEntry} {n:Nat} {sl:Array (Option Value)} (x:Str) (u:Tok) (c:IC s.heap b d es n sl) (e:A.units<cLine):SeqAt.RcAt A s (.str x u) (.ref b) false:=fun prog w E Q h=>
 SeqAt.rc_eq_decline_or (k:=false) (typeIs_str s x u) ⟨_,c.ho,rfl⟩ (by decide) F.sub_dict_str F.slot_str_eq F.slot_dict_eq_refl
  (fun _ a=>call_meets F.slot_str_eq (typeIs_str s x u) F.entry_str_eq (F.args_str_eq_2 _ _) (Ck x u b (.type "dict") es n d sl) ⟨c.ho,a⟩)
  (fun _ a=>Be ⟨_,c.ho,rfl⟩ (typeIs_str s x u) F.sub_str_dict a)
  (fun _ a=>wpAny_of_eq (rfl:isSame (.str x u) (.ref b)=pure false) a) (.inr e) h
theorem ON {b:Addr} {d:Option Addr} {es:Array DictEntry} {n:Nat} {sl:Array (Option Value)} (x:Str) (u:Tok) (c:IC s.heap b d es n sl) (e:A.units<cLine):SeqAt.RcAt A s (.ref b) (.str x u) false:=fun prog w E Q h=>
 SeqAt.rc_eq_decline_or (k:=false) ⟨_,c.ho,rfl⟩ (typeIs_str s x u) (by decide) F.sub_str_dict F.slot_dict_eq F.slot_str_eq_refl
  (fun _ a=>Be ⟨_,c.ho,rfl⟩ (typeIs_str s x u) F.sub_str_dict a)
  (fun _ a=>call_meets F.slot_str_eq_refl (typeIs_str s x u) F.entry_str_eq (F.args_str_eq_2 _ _) (Ck x u b (.type "dict") es n d sl) ⟨c.ho,a⟩)
  (fun _ a=>wpAny_of_eq (rfl:isSame (.ref b) (.str x u)=pure false) a) (.inr e) h
theorem aC {l b:Addr} {items:Array Value} {a:Option Addr} {es:Array DictEntry} {n:Nat} {sl:Array (Option Value)} {h:Heap} (hl:h.IsList l items) (c:IC h b a es n sl):l≠b:=fun e=>by
 subst e
 obtain⟨o,ho,d,_⟩:=hl
 rw[c.ho]at ho
 cases ho
 exact absurd d (by simp)
theorem Me {l b:Addr} {items:Array Value} {g:Option Addr} {es:Array DictEntry} {n:Nat} {sl:Array (Option Value)} (hl:s.heap.IsList l items) (a:IC s.heap b g es n sl) (m:A.units<cLine):SeqAt.RcAt A s (.ref l) (.ref b) false:=fun prog w E Q h=>by
 have d:=aC hl a
 obtain⟨⟨o,e,data,f⟩,ho,i,p,j⟩:=id hl
 simp only at i j
 subst i j
 exact(SeqAt.rc_eq_decline_or (k:=false) ⟨_,ho,rfl⟩ ⟨_,a.ho,rfl⟩ (by decide) F.sub_dict_list F.slot_list_eq F.slot_dict_eq_refl
  (fun _ c=>call_meets F.slot_list_eq ⟨_,ho,rfl⟩ F.entry_list_eq (F.args_list_eq_2 _ _) (CY l b items es p n e g f sl) ⟨ho,a.ho,c⟩)
  (fun _ c=>Be ⟨_,a.ho,rfl⟩ ⟨_,ho,rfl⟩ F.sub_list_dict c)
  (fun _ c=>SeqAt.wpAny_isSame_ref_other' d ho a.ho (by simp) c) (.inr m) h)
theorem Mf {l b:Addr} {items:Array Value} {g:Option Addr} {es:Array DictEntry} {n:Nat} {sl:Array (Option Value)} (hl:s.heap.IsList l items) (a:IC s.heap b g es n sl) (m:A.units<cLine):SeqAt.RcAt A s (.ref b) (.ref l) false:=fun prog w E Q h=>by
 have d:=aC hl a
 obtain⟨⟨o,e,data,f⟩,ho,i,p,j⟩:=id hl
 simp only at i j
 subst i j
 exact(SeqAt.rc_eq_decline_or (k:=false) ⟨_,a.ho,rfl⟩ ⟨_,ho,rfl⟩ (by decide) F.sub_list_dict F.slot_dict_eq F.slot_list_eq_refl
  (fun _ c=>Be ⟨_,a.ho,rfl⟩ ⟨_,ho,rfl⟩ F.sub_list_dict c)
  (fun _ c=>call_meets F.slot_list_eq_refl ⟨_,ho,rfl⟩ F.entry_list_eq (F.args_list_eq_2 _ _) (CY l b items es p n e g f sl) ⟨ho,a.ho,c⟩)
  (fun _ c=>SeqAt.wpAny_isSame_ref_other' d.symm a.ho ho (by simp) c) (.inr m) h)
end
open PySem.AutoSeq1 (wpAny_loadPart')
open PySem.MeetsSeq3
section
variable{prog:Program} {w:World} {A:Around} {s:Shared}
def jb (prog:Program) (w:World) (A:Around) (s:Shared) (u v:Value):Prop:=∀(E:Value->Shared->Prop) (Q:Bool->Shared->Prop),Q true s->wpAny (model prog w) A (eqBool u v) Q E s
def y_ (prog:Program) (w:World) (A:Around) (s:Shared) (u v:Value):Prop:=∀(E:Value->Shared->Prop) (Q:Value->Shared->Prop),Q (.bool true) s->wpAny (model prog w) A (richCompare .Eq u v) Q E s
theorem jb.of {u v:Value} (h:SeqAt.EqAt A s u v true):jb prog w A s u v:=fun E Q a=>h prog w E Q a
theorem call_one {E:Value->Shared->Prop} {T:String} {name:Str} {id:String} {B:Builtin} {self:Value} {rest:List Value} {Q:Value->Shared->Prop} (slot:Slot T name id) (c:s.TypeIs self T) (entry:entryFor table id=some B) (args:argsOk id ⟨self::rest,[]⟩)
  (g:wpAny (model prog w) A.in1 (B ⟨self::rest,[]⟩) (fun fin a=>match fin with| .done f=>wants Q E (.ok f) a| .again b=>b.quiet=true/\codeAny (model prog w) A b (wants Q E) a) (fun e a=>wants Q E (.error e) a) s):
  wpAny (model prog w) A (call (.builtin id) (self::rest)) Q E s:=wpAny_call (codeAny_call_builtin slot.plain entry (slot.check _ _ _ _ _ _ _ _ c args g))
theorem LR {l b:Addr} {items a:Array Value} (hl:s.heap.IsTuple l items) (G:s.heap.IsTuple b a) (hsz:items.size=a.size) (H:A.units<cLine)
  (I:∀j (v:j<items.size) (z:j<a.size),jb prog w A.in1 s items[j] a[j]):y_ prog w A s (.ref l) (.ref b):=fun E Q h=>by
 obtain⟨⟨J,R,data,S⟩,r,B,n,C⟩:=id hl
 obtain⟨⟨D,K,data2,L⟩,f,k,T,m⟩:=id G
 simp only at B C k m
 subst B C k m
 refine wpAny_richCompare_same_room (op:=.Eq) ⟨_,r,rfl⟩ ⟨_,f,rfl⟩ F.slot_tuple_eq (wpAny_call_entry F.slot_tuple_eq ⟨_,r,rfl⟩ F.entry_tuple_eq ?_ (F.args_tuple_eq_2 _ _)) H
 obtain⟨M,g,d,N,os⟩:=s
 have U:=AutoSeq1.sub_tuple_tuple
 wp_walk using wpAny_loadPart' r,wpAny_loadPart' f,wpAny_forIn_list _ (fun rest b t=>b.1=none/\t=⟨M,g,d,N,os⟩/\∃i,rest=(items.toList.zip a.toList).drop i) _
 case turn=>
  rintro⟨y,x⟩ rest b t ⟨c,rfl,i,o⟩
  have p:i<(items.toList.zip a.toList).length:=by
   rcases Nat.lt_or_ge i (items.toList.zip a.toList).length with u|u
   ·exact u
   ·rw[List.drop_of_length_le u]at o;cases o
  have v:i<items.size:=by simp at p;lia
  have z:i<a.size:=by lia
  rw[List.drop_eq_getElem_cons p]at o
  injection o with q e
  have O:y=items[i]:=by have:=congrArg Prod.fst q;simpa using this
  have P:x=a[i]:=by have:=congrArg Prod.snd q;simpa using this
  subst O P
  refine wpAny_bind (I i v z _ _ ?_)
  wp_walk
  exact⟨rfl,rfl,i+1,e⟩
 case fin=>
  rintro⟨V,W⟩ t ⟨c,rfl,i,o⟩
  simp only at c
  subst c
  wp_walk
  exact⟨_,rfl,(fun x=>nomatch x),by simpa[Builtin.Tuple.tupleCompareSizes,hsz]using h⟩
 case h=>
  exact⟨rfl,rfl,0,rfl⟩
end
class Ar (K:outParam ADv):Prop where
 x:True
structure OO (H H':Hp):Prop where
 rd:Ez H H'
 tp:∀a vs,H a=some (.tup vs)->H' a=some (.tup vs)
theorem OO.of {H b:Hp} (s:AG H b):OO H b:=⟨s.r,fun a c e=>s _ _ e⟩
theorem OO.CK {a:Addr} {o:Obj} {kvs:List (Key×V)} {H c:Hp} (F:QS a o kvs H c):OO H c:=⟨F.rd,fun b f e=>by
 have d:b≠a:=fun z=>by
  subst z
  rcases F.mC with r|⟨o,r⟩<;>rw[r]at e<;>cases e
 rw[F.ne b d];exact e⟩
theorem OO.trans {H d H2:Hp} (a:OO H d) (b:OO d H2):OO H H2:=⟨a.rd.trans b.rd,fun c f e=>b.tp c f (a.tp c f e)⟩
theorem BY.OP {K:ADv} {H b:Hp} {a:Addr} {xs:List V} (h:BY K H a xs) (s:OO H b):BY K b a xs:=h.imp (fun r=>s.rd _ _ r) id
theorem BY.up {K:ADv} {H b:Hp} {a:Addr} {xs:List V} (h:BY K H a xs) (s:AG H b):BY K b a xs:=h.OP (.of s)
theorem BY.put {K:ADv} {H:Hp} {a D:Addr} {xs:List V} {o:HO} (h:BY K H a xs) (b:H D=none):BY K (upd H D o) a xs:=h.up (AG.new b)
inductive aD (K:ADv) (H:Hp):V->String->Prop where
 |n {v:V} {T:String} (h:JK H v T):aD K H v T
 |t {a:Addr} {xs:List V} (h:BY K H a xs):aD K H (.ref a) "tuple"
theorem aD.Zz {K:ADv} {H:Hp} {v:V} {T:String} (h:aD K H v T):∃(a:Hp) (b:V),JK a b T:=by
 cases h with
 |n h=>exact⟨H,v,h⟩
 |t h=>exact⟨upd H 0 (.tup []),.ref 0,.tup AE⟩
section
variable{X:Cx}
inductive CO (K:ADv) (xs:List V) (H:Hp) (Q:VK):Prop
 |mk (x:_) (c:_) (T:_) (a:xs=[x,.ty c]) (b:Xx c=true) (d:aD K H x T) (e:Q (.bl (U_ T c)) H):CO K xs H Q
theorem BB:BD X (.builtin "isinstance") (CO X.K):=by
 intro pins s v H i w Q I r h
 obtain⟨x,c,T,rfl,j,ty,q⟩:=h
 obtain⟨u,y,rfl,g,b⟩:=vals2 r
 cases b
 obtain⟨A,B,d⟩:=ty.Zz
 have e:=RV (K:=X.K) d j
 cases ty with
 |n ty=>exact Nu I g ty e fun f=>⟨.bl _,H,I.tok f,rfl,q⟩
 |@t a i k=>
  cases(show u=Value.ref a from g)
  obtain⟨_,_,p,_⟩:=I.tuple k
  obtain⟨o,l,m,_⟩:=p
  exact PySem.W.kia_one PySem.W.kitx_tuple I.GB ⟨o,l,m⟩ e (fun z=>nomatch z) fun f=>⟨.bl _,H,I.tok f,rfl,q⟩
def Vr (T:String):Bool:=T=="list"||T=="tuple"
theorem cB {K:ADv} {H:Hp} {v:V} {T:String} (h:JK H v T):PySem.W.kitAny K (.type T) [.type "list",.type "tuple"]=some (Vr T):=by
 cases h<;>kernel_rfl
inductive QV (K:ADv) (xs:List V) (H:Hp) (Q:VK):Prop
 |mk (x:V) (p:Addr) (T:String) (a:xs=[x,.ref p]) (b:H p=some (.tup [.ty "list",.ty "tuple"])) (c:aD K H x T) (d:Q (.bl (Vr T)) H):QV K xs H Q
theorem QW:BD X (.builtin "isinstance") (QV X.K):=by
 intro pins s G H l J Q I r h
 obtain⟨x,p,T,rfl,m,ty,q⟩:=h
 obtain⟨u,L,rfl,g,b⟩:=vals2 r
 cases b
 obtain⟨v,w,y,_⟩:=I.tuple (BY.of m)
 obtain⟨⟨A,M,data,N⟩,i,j,n,k⟩:=id y
 simp only at j k
 subst j k
 obtain⟨O,P,c⟩:=ty.Zz
 have e:=cB (K:=X.K) c
 cases w with
 |cons B d=>
  cases d with
  |cons C d=>
   cases d
   cases B
   cases C
   cases ty with
   |n ty=>exact JO I g ty i e fun f=>⟨.bl _,H,I.tok f,rfl,q⟩
   |@t a l D=>
    cases(show u=Value.ref a from g)
    obtain⟨_,_,p,_⟩:=I.tuple D
    obtain⟨o,E,F,_⟩:=p
    exact PySem.W.kia_tup PySem.W.kitx_tuple I.GB ⟨o,E,F⟩ i e (fun z=>nomatch z) fun f=>⟨.bl _,H,I.tok f,rfl,q⟩
end
inductive Pt where
 |int (i:Int)
 |str (x:Str)
 |bl (b:Bool)
 |lst (xs:List Pt)
 |tup (xs:List Pt)
 |BF (ks:List Str) (xs:List Pt)
namespace Pt
mutual
def size:Pt->Nat
 |int _|str _|bl _=>1
 |lst xs|tup xs=>1+AJ xs
 |BF _ xs=>1+AJ xs
def AJ:List Pt->Nat
 |[]=>0
 |x::r=>size x+AJ r
end
mutual
def deep:Pt->Nat
 |int _|str _|bl _=>1
 |lst xs|tup xs=>1+AV xs
 |BF _ xs=>1+AV xs
def AV:List Pt->Nat
 |[]=>0
 |x::r=>max (deep x) (AV r)
end
mutual
def doc:Pt->Prop
 |int _=>True
 |str x=>x.length<=100
 |bl _=>False
 |tup _=>False
 |lst xs=>CH xs
 |BF ks xs=>ks.length=xs.length/\ks.Nodup/\(∀k∈ks,CB k=true)/\ks.length<64/\CH xs
def CH:List Pt->Prop
 |[]=>True
 |x::r=>doc x/\CH r
end
def look (ks:List Str) (xs:List Pt) (k:Str):Option Pt:=(ks.zip xs).lookup k
mutual
def Bw:Pt->Pt->Bool
 |int i,int j=>i==j
 |str x,str y=>x==y
 |bl a,bl b=>a==b
 |lst xs,lst ys=>DJ xs ys
 |tup xs,tup ys=>DJ xs ys
 |BF ks xs,BF ls ys=>ks.length==ls.length&&Ko ks xs ls ys
 |_,_=>false
def DJ:List Pt->List Pt->Bool
 |[],[]=>true
 |x::xs,y::ys=>Bw x y&&DJ xs ys
 |_,_=>false
def Ko:List Str->List Pt->List Str->List Pt->Bool
 |k::ks,x::xs,ls,ys=>(match look ls ys k with|some y=>Bw x y|none=>false)&&Ko ks xs ls ys
 |_,_,_,_=>true
end
theorem size_pos (t:Pt):1<=t.size:=by cases t<;>simp only[size]<;>lia
theorem D' (t:Pt):1<=t.deep:=by cases t<;>simp only[deep]<;>lia
theorem Bj:∀{xs:List Pt} {x:Pt},x∈xs->x.size<=AJ xs
 |y::r,x,h=>by
  simp only[AJ]
  rcases List.mem_cons.mp h with rfl|h
  ·lia
  ·have:=Bj h;lia
theorem BC:∀{xs:List Pt} {x:Pt},x∈xs->x.deep<=AV xs
 |y::r,x,h=>by
  simp only[AV]
  rcases List.mem_cons.mp h with rfl|h
  ·lia
  ·have:=BC h;lia
theorem CV:∀xs:List Pt,xs.length<=AJ xs
 |[]=>Nat.le_refl _
 |x::r=>by have:=CV r;have:=size_pos x;simp only[List.length_cons,AJ];lia
theorem Ba:∀{xs:List Pt},CH xs->∀x∈xs,doc x
 |y::r,h,x,a=>by
  simp only[CH]at h
  rcases List.mem_cons.mp a with rfl|a
  ·exact h.1
  ·exact Ba h.2 x a
theorem Ik:∀{xs:List Pt},(∀x∈xs,doc x)->CH xs
 |[],_=>trivial
 |x::r,h=>⟨h x List.mem_cons_self,Ik fun y a=>h y (List.mem_cons_of_mem _ a)⟩
theorem Am (xs ys:List Pt):AJ (xs++ys)=AJ xs+AJ ys:=by
 induction xs with
 |nil=>simp[AJ]
 |cons x r a=>simp only[List.cons_append,AJ,a];lia
theorem Vs {ks:List Str} {xs:List Pt} {k:Str} {x:Pt} (h:look ks xs k=some x):k∈ks/\x∈xs:=by
 unfold look at h
 induction ks generalizing xs with
 |nil=>simp at h
 |cons y r a=>
  cases xs with
  |nil=>simp at h
  |cons z b=>
   simp only[List.zip_cons_cons,List.lookup_cons]at h
   by_cases e:k=y
   ·subst e
    simp at h
    subst h
    exact⟨List.mem_cons_self,List.mem_cons_self⟩
   ·have:(k==y)=false:=by simpa using e
    rw[this]at h
    have:=a h
    exact⟨List.mem_cons_of_mem _ this.1,List.mem_cons_of_mem _ this.2⟩
theorem TX {ks:List Str} {xs:List Pt} (l:ks.length=xs.length) {k:Str} (a:k∈ks):∃x,look ks xs k=some x:=by
 unfold look
 induction ks generalizing xs with
 |nil=>cases a
 |cons y r b=>
  cases xs with
  |nil=>simp at l
  |cons z c=>
   simp only[List.zip_cons_cons,List.lookup_cons]
   by_cases e:k=y
   ·subst e;exact⟨z,by simp⟩
   ·have:(k==y)=false:=by simpa using e
    rw[this]
    exact b (by simpa using l) ((List.mem_cons.mp a).resolve_left e)
end Pt
mutual
inductive Val {K:ADv} [Ar K] (H:Hp):V->Pt->Prop
 |int (i:Int):Val H (.int i) (.int i)
 |str (x:Str):Val H (.str x) (.str x)
 |bl (b:Bool):Val H (.bl b) (.bl b)
 |lst {a:Addr} {vs:List V} {ts:List Pt} (h:Rd H a (.lst vs)) (r:Aa H vs ts):Val H (.ref a) (.lst ts)
 |tup {a:Addr} {vs:List V} {ts:List Pt} (h:BY K H a vs) (r:Aa H vs ts):Val H (.ref a) (.tup ts)
 |BF {a:Addr} {kvs:List (Key×V)} {ks:List Str} {ts:List Pt} (h:Rd H a (.dK kvs)) (c:kvs.map (·.1)=ks.map Sum.inr) (r:Aa H (kvs.map (·.2)) ts):Val H (.ref a) (.BF ks ts)
inductive Aa {K:ADv} [Ar K] (H:Hp):List V->List Pt->Prop
 |nil:Aa H [] []
 |cons {v:V} {t:Pt} {vs:List V} {ts:List Pt} (h:Val H v t) (r:Aa H vs ts):Aa H (v::vs) (t::ts)
end
section
variable{K:ADv} [Ar K]
mutual
theorem Val.OP {H a:Hp} (s:OO H a):∀{v:V} {t:Pt},Val H v t->Val a v t
 |_,_,.int i=>.int i
 |_,_,.str x=>.str x
 |_,_,.bl b=>.bl b
 |_,_,.lst h r=>.lst (s.rd _ _ h) (r.OP s)
 |_,_,.tup h r=>.tup (h.OP s) (r.OP s)
 |_,_,.BF h c r=>.BF (s.rd _ _ h) c (r.OP s)
theorem Aa.OP {H a:Hp} (s:OO H a):∀{vs:List V} {ts:List Pt},Aa H vs ts->Aa a vs ts
 |_,_,.nil=>.nil
 |_,_,.cons h r=>.cons (h.OP s) (r.OP s)
end
theorem Val.up {H a:Hp} {v:V} {t:Pt} (h:Val H v t) (s:AG H a):Val a v t:=h.OP (.of s)
theorem Aa.up {H a:Hp} {v:List V} {t:List Pt} (h:Aa H v t) (s:AG H a):Aa a v t:=h.OP (.of s)
theorem Aa.length {H:Hp}:∀{vs:List V} {ts:List Pt},Aa H vs ts->vs.length=ts.length
 |_,_,.nil=>rfl
 |_,_,.cons _ r=>by rw[List.length_cons,List.length_cons,r.length]
theorem Aa.get {H:Hp}:∀{vs:List V} {ts:List Pt},Aa H vs ts->∀{i:Nat} {v:V},vs[i]?=some v->∃t,ts[i]?=some t/\Val H v t
 |_,_,.nil,i,v,h=>by simp at h
 |_,_,.cons h r,0,v,e=>by
  simp at e
  subst e
  exact⟨_,by simp,h⟩
 |_,_,.cons h r,i+1,v,e=>by
  obtain⟨t,a,b⟩:=r.get (i:=i) (v:=v) (by simpa using e)
  exact⟨t,by simpa using a,b⟩
theorem Aa.get' {H:Hp}:∀{vs:List V} {ts:List Pt},Aa H vs ts->∀{i:Nat} {t:Pt},ts[i]?=some t->∃v,vs[i]?=some v/\Val H v t
 |_,_,.nil,i,v,h=>by simp at h
 |_,_,.cons h r,0,v,e=>by
  simp at e
  subst e
  exact⟨_,by simp,h⟩
 |_,_,.cons h r,i+1,v,e=>by
  obtain⟨t,a,b⟩:=r.get' (i:=i) (t:=v) (by simpa using e)
  exact⟨t,by simpa using a,b⟩
theorem Aa.append {H:Hp}:∀{vs:List V} {ts:List Pt},Aa H vs ts->∀{ws:List V} {us:List Pt},Aa H ws us->Aa H (vs++ws) (ts++us)
 |_,_,.nil,_,_,s=>s
 |_,_,.cons h r,_,_,s=>.cons h (r.append s)
theorem Aa.of {H:Hp}:∀{vs:List V} {ts:List Pt},vs.length=ts.length->(∀(i:Nat) v t,vs[i]?=some v->ts[i]?=some t->Val H v t)->Aa H vs ts
 |[],[],_,_=>.nil
 |[],_::_,l,_=>by simp at l
 |_::_,[],l,_=>by simp at l
 |v::vs,t::ts,l,h=>.cons (h 0 v t (by simp) (by simp)) (Aa.of (by simpa using l) fun i w u a b=>h (i+1) w u (by simpa using a) (by simpa using b))
theorem Val.EV {H:Hp}:∀{kvs:List (Key×V)} {ks:List Str} {ts:List Pt},kvs.map (·.1)=ks.map Sum.inr->Aa H (kvs.map (·.2)) ts->∀k:Str,(∃v t,CF kvs (Sum.inr k)=some v/\Pt.look ks ts k=some t/\Val H v t)∨(CF kvs (Sum.inr k)=none/\Pt.look ks ts k=none)
 |[],[],_,_,r,k=>by cases r;exact .inr ⟨rfl,rfl⟩
 |[],_::_,_,h,_,_=>by simp at h
 |_::_,[],_,h,_,_=>by simp at h
 |(y,v)::kvs,x::ks,ts,h,r,k=>by
  simp only[List.map_cons,List.cons.injEq]at h
  obtain⟨e,h⟩:=h
  subst e
  cases r with
  |@cons _ t _ ts a r=>
   by_cases e:k=x
   ·subst e
    exact .inl ⟨v,t,DE rfl,by simp[Pt.look],a⟩
   ·have b:(k==x)=false:=by simpa using e
    have c:CF ((Sum.inr x,v)::kvs) (Sum.inr k)=CF kvs (Sum.inr k):=DF (by intro z;exact e (Sum.inr.inj z).symm)
    have d:Pt.look (x::ks) (t::ts) k=Pt.look ks ts k:=by simp[Pt.look,List.zip_cons_cons,List.lookup_cons,b]
    rw[c,d]
    exact Val.EV h r k
end
section
variable{K:ADv} [Ar K]
theorem Val.YQ {H:Hp} {v:V} {x:Str} (h:Val H v (.str x)):v=.str x:=by cases h;rfl
theorem Val.vd {H:Hp} {v:V} {x:Bool} (h:Val H v (.bl x)):v=.bl x:=by cases h;rfl
theorem Val.tupI {H:Hp} {v:V} {ts:List Pt} (h:Val H v (.tup ts)):∃a vs,v=.ref a/\BY K H a vs/\Aa H vs ts:=by cases h with|tup h r=>exact⟨_,_,rfl,h,r⟩
theorem Val.YR {H:Hp} {v:V} {ts:List Pt} (h:Val H v (.lst ts)):∃a vs,v=.ref a/\Rd H a (.lst vs)/\Aa H vs ts:=by cases h with|lst h r=>exact⟨_,_,rfl,h,r⟩
theorem Val.cC {H:Hp} {v:V} {ks:List Str} {ts:List Pt} (h:Val H v (.BF ks ts)):∃(a:Addr) (kvs:List (Key×V)),v=.ref a/\Rd H a (.dK kvs)/\kvs.map (·.1)=ks.map Sum.inr/\Aa H (kvs.map (·.2)) ts:=by cases h with|BF h b r=>exact⟨_,_,rfl,h,b,r⟩
theorem Aa.Fq {H:Hp} {vs:List V} {t:Pt} {ts:List Pt} (h:Aa H vs (t::ts)):∃v a,vs=v::a/\Val H v t/\Aa H a ts:=by cases h with|cons h r=>exact⟨_,_,rfl,h,r⟩
theorem Aa.YS {H:Hp} {vs:List V} (h:Aa H vs []):vs=[]:=by cases h;rfl
end
section
variable{X:Cx} [Ar X.K] {pins:List (Addr×Obj)} {σ:St} {H:Hp} {s:Shared}
theorem Aa.at {vs:List V} {ts:List Pt} {its:List Value} (r:Aa H vs ts) (c:Vals vs its) {j:Nat} (h:j<its.toArray.size):∃v t,vs[j]?=some v/\ts[j]?=some t/\Val H v t/\RelV v its.toArray[j]:=by
 obtain⟨v,b,a⟩:=YL c h
 obtain⟨t,d,e⟩:=r.get b
 exact⟨v,t,b,d,e,a⟩
end
section
inductive mI {K:ADv} [Ar K] (x y:V) (H:Hp) (Q:VK):Prop
 |mk (a b:Addr) (t:Pt) (c:x=.ref a) (e:y=.ref b) (f:Val H (.ref a) t) (g:Val H (.ref b) t) (d:t.deep<=60) (q:Q (.bl true) H):mI x y H Q
end
section
variable{X:Cx}
end
inductive TY:Pt->Prop
 |int (i:Int):TY (.int i)
 |str (x:Str):TY (.str x)
 |nil:TY (.lst [])
 |emp:TY (.BF [] [])
inductive Sm:Pt->Prop
 |one {t:Pt} (h:TY t):Sm t
 |row {xs:List Pt} (h:∀x∈xs,TY x):Sm (.lst xs)
 |tab {ks:List Str} {xs:List Pt} (h:∀x∈xs,TY x):Sm (.BF ks xs)
section
variable{A:Around} {s:Shared}
end
section
variable{X:Cx} [Ar X.K] {pins:List (Addr×Obj)} {σ:St} {H:Hp} {s:Shared}
theorem EA:∀{xs ys:List Pt},xs.length≠ys.length->Pt.DJ xs ys=false
 |[],[],h=>by simp at h
 |[],_::_,_=>by simp[Pt.DJ]
 |_::_,[],_=>by simp[Pt.DJ]
 |x::xs,y::ys,h=>by
  have:=EA (xs:=xs) (ys:=ys) (by simpa using h)
  simp[Pt.DJ,this]
def pairE (xs ys:List Pt) (j:Nat):Bool:=match xs[j]?,ys[j]? with
 |some x,some y=>Pt.Bw x y
 |_,_=>false
theorem Jc:∀{xs ys:List Pt},xs.length=ys.length->(List.range xs.length).all (pairE xs ys)=Pt.DJ xs ys
 |[],[],_=>by simp[Pt.DJ]
 |[],_::_,h=>by simp at h
 |_::_,[],h=>by simp at h
 |x::xs,y::ys,h=>by
  have a:=Jc (xs:=xs) (ys:=ys) (by simpa using h)
  rw[List.length_cons,List.range_succ_eq_map,List.all_cons,List.all_map]
  have b:pairE (x::xs) (y::ys) 0=Pt.Bw x y:=by simp[pairE]
  have c:(pairE (x::xs) (y::ys)∘Nat.succ)=pairE xs ys:=by
   funext j
   simp[pairE]
  rw[b,c,a]
  simp[Pt.DJ]
theorem HY (I:Inv X pins σ H s) {a:Addr} {kvs:List (Key×V)} (h:Rd H a (.dK kvs)):(a==sysModules)=false/\∃b es n sl,IC s.heap a b es n sl/\es.size=kvs.length:=by
 obtain⟨z,g,l,c,⟨⟨d,b,data,sl⟩,es,n,i,j,f,m,k,o⟩⟩:=Eh I.BS h
 have e:d=.type "dict":=j.1
 simp only at f
 subst e f
 refine⟨g,b,es,n,sl,⟨i⟩,?_⟩
 have:=k.length
 rw[c.length,<-this]
 simp
end
section
inductive mJ {K:ADv} [Ar K] (x y:V) (H:Hp) (Q:VK):Prop
 |mk (p t:Pt) (a:Val H x p) (b:Val H y t) (c:Sm p) (d:t.doc) (q:Q (.bl (Pt.Bw p t)) H):mJ x y H Q
end
section
variable{X:Cx}
end
def lk {a:Type} (ks:List Str) (xs:List a) (k:Str):Option a:=(ks.zip xs).lookup k
theorem Bn {a:Type} {y k:Str} {r:List Str} {z:a} {zs:List a}:lk (y::r) (z::zs) k=if k=y then some z else lk r zs k:=by
 unfold lk
 rw[List.zip_cons_cons,List.lookup_cons]
 by_cases e:k=y
 ·subst e;simp
 ·have:(k==y)=false:=by simpa using e
  rw[this,if_neg e]
theorem CM {a:Type} {ks:List Str} {xs:List a} {k:Str} {x:a} (h:lk ks xs k=some x):k∈ks/\x∈xs:=by
 induction ks generalizing xs with
 |nil=>simp[lk]at h
 |cons y r b=>
  cases xs with
  |nil=>simp[lk]at h
  |cons z c=>
   rw[Bn]at h
   by_cases e:k=y
   ·rw[if_pos e]at h
    cases h
    exact⟨by rw[e];exact List.mem_cons_self,List.mem_cons_self⟩
   ·rw[if_neg e]at h
    have:=b h
    exact⟨List.mem_cons_of_mem _ this.1,List.mem_cons_of_mem _ this.2⟩
theorem FP {b:Type} {ks:List Str} {xs:List b} (l:ks.length=xs.length) {k:Str} (a:k∈ks):∃x,lk ks xs k=some x:=by
 induction ks generalizing xs with
 |nil=>cases a
 |cons y r c=>
  cases xs with
  |nil=>simp at l
  |cons z d=>
   rw[Bn]
   by_cases e:k=y
   ·rw[if_pos e];exact⟨z,rfl⟩
   ·rw[if_neg e]
    exact c (by simpa using l) ((List.mem_cons.mp a).resolve_left e)
def pk {a:Type} (f:a->Pt->Bool):Option a->Option Pt->Bool
 |some x,some y=>f x y
 |_,_=>false
def Ha {a:Type} (f:a->Pt->Bool):List Str->List a->List Str->List Pt->Bool
 |k::ks,x::xs,ls,ys=>(match lk ls ys k with|some y=>f x y|none=>false)&&Ha f ks xs ls ys
 |_,_,_,_=>true
theorem Vt {d:Type} {a b:List d} (p:a.Perm b) (f:d->Bool):a.all f=b.all f:=by
 rw[Bool.eq_iff_iff,List.all_eq_true,List.all_eq_true]
 exact⟨fun h x c=>h x (p.mem_iff.mpr c),fun h x c=>h x (p.mem_iff.mp c)⟩
theorem GX {b:Type} (f:b->Pt->Bool) {ls:List Str} {ys:List Pt}:∀{ks:List Str} {xs:List b},ks.length=xs.length->ks.Nodup->Ha f ks xs ls ys=ks.all fun k=>pk f (lk ks xs k) (lk ls ys k)
 |[],[],_,_=>by simp[Ha]
 |[],_::_,h,_=>by simp at h
 |_::_,[],h,_=>by simp at h
 |k::ks,x::xs,l,nd=>by
  obtain⟨c,d⟩:=List.nodup_cons.mp nd
  rw[List.all_cons,Bn,if_pos rfl]
  simp only[Ha]
  rw[GX f (ks:=ks) (xs:=xs) (by simpa using l) d]
  congr 1
  ·cases lk ls ys k<;>rfl
  ·rw[Bool.eq_iff_iff,List.all_eq_true,List.all_eq_true]
   have e:∀y∈ks,lk (k::ks) (x::xs) y=lk ks xs y:=fun y a=>by
    rw[Bn,if_neg (fun z=>c (by rw[<-z];exact a))]
   exact⟨fun h y a=>by rw[e y a];exact h y a,fun h y a=>by have:=h y a;rwa [e y a]at this⟩
theorem Vu {e:Type} (f:e->Pt->Bool) {ls ks ss:List Str} {ys bs:List Pt} {xs as:List e} (l:ks.length=xs.length) (nd:ks.Nodup) (g:ss.Perm ks) (c:ss.map (lk ks xs)=as.map some) (d:ss.map (lk ls ys)=bs.map some):
  Ha f ks xs ls ys=(as.zip bs).all fun p=>f p.1 p.2:=by
 rw[GX f l nd,<-Vt g]
 clear g nd l
 induction ss generalizing as bs with
 |nil=>
  have:as=[]:=by cases as with|nil=>rfl|cons _ _=>simp at c
  subst this
  simp
 |cons k r h=>
  cases as with
  |nil=>simp at c
  |cons a as=>
   cases bs with
   |nil=>simp at d
   |cons b bs=>
    simp only[List.map_cons,List.cons.injEq]at c d
    rw[List.all_cons,List.zip_cons_cons,List.all_cons,h c.2 d.2,c.1,d.1]
    rfl
theorem Jd:∀{ks ls:List Str},ks.Nodup->ls.Nodup->ks.length=ls.length->(∀k∈ks,k∈ls)->ks.Perm ls
 |[],ls,_,_,l,_=>by
  have:ls=[]:=by cases ls with|nil=>rfl|cons _ _=>simp at l
  subst this
  exact .refl _
 |k::ks,ls,f,g,l,h=>by
  obtain⟨a,b,e⟩:=List.append_of_mem (h k List.mem_cons_self)
  subst e
  have c:(a++k::b).Perm (k::(a++b)):=List.perm_middle
  obtain⟨i,j⟩:=List.nodup_cons.mp f
  have m:(k::(a++b)).Nodup:=c.nodup_iff.mp g
  obtain⟨o,n⟩:=List.nodup_cons.mp m
  refine(List.Perm.cons k (Jd j n (by simp at l⊢;lia) fun x d=>?_)).trans c.symm
  have:=c.mem_iff.mp (h x (List.mem_cons_of_mem _ d))
  exact(List.mem_cons.mp this).resolve_left fun z=>i (by rw[<-z];exact d)
theorem Hb {ls:List Str} {ys:List Pt}:∀{ks:List Str} {xs:List Pt},Pt.Ko ks xs ls ys=Ha Pt.Bw ks xs ls ys
 |[],xs=>by simp[Pt.Ko,Ha]
 |_::_,[]=>by simp[Pt.Ko,Ha]
 |k::ks,x::xs=>by simp only[Pt.Ko,Ha];rw[Hb];rfl
def aE:Pt->List V->Prop
 | .lst xs,l=>l=(List.range xs.length).map fun(i:Nat)=>V.int (i:Int)
 | .BF ks _,l=>∃ss:List Str,l=ss.map V.str/\ss.Perm ks/\sortedS ss=true
 |_,l=>l=[]
def DY:Pt->Prop
 | .int _=>True
 | .str _=>True
 | .lst xs=>xs.length<=900
 | .BF ks xs=>ks.length=xs.length/\ks.length<64
 |_=>False
def IY:Pt->List Pt->Prop
 | .lst xs,ts=>ts=xs
 | .BF ks xs,ts=>∃ss:List Str,ss.Perm ks/\sortedS ss=true/\ss.map (lk ks xs)=ts.map some
 |_,ts=>ts=[]
theorem IY.one {t:Pt} {as bs:List Pt} (h:IY t as) (h':IY t bs):as=bs:=by
 cases t with
 |lst c=>exact(show as=c from h).trans (show bs=c from h').symm
 |BF l c=>
  obtain⟨m,e,f,g⟩:=h
  obtain⟨n,i,j,d⟩:=h'
  have:=CN f j (e.trans i.symm)
  subst this
  rw[g]at d
  have inj:∀{a b:List Pt},a.map some=b.map some->a=b:=by
   intro a
   induction a with
   |nil=>intro b h;cases b with|nil=>rfl|cons _ _=>simp at h
   |cons x r k=>
    intro b h
    cases b with
    |nil=>simp at h
    |cons y q=>
     simp only[List.map_cons,List.cons.injEq]at h
     rw[ADt h.1,k h.2]
  exact inj d
 |_=>exact(show as=[]from h).trans (show bs=[]from h').symm
section
variable{K:ADv} [Ar K]
def cD (H:Hp) (v s e:V):Prop:=(∃a b j,v=.ref a/\Rd H a (.lst b)/\s=.int ((j:Nat):Int)/\b[j]?=some e)∨∃a kvs k,v=.ref a/\Rd H a (.dK kvs)/\s=.str k/\CF kvs (Sum.inr k)=some e
theorem OQ {H:Hp} {kvs:List (Key×V)} {ks:List Str} {ts:List Pt} (d:kvs.map (·.1)=ks.map Sum.inr) (r:Aa H (kvs.map (·.2)) ts) (l:ks.length=ts.length):∀{ss:List Str},(∀k∈ss,k∈ks)->
  ∃(es:List V) (us:List Pt),Aa H es us/\ss.map (lk ks ts)=us.map some/\es.length=ss.length/\∀(i:Nat) e,es[i]?=some e->∃k,ss[i]?=some k/\CF kvs (Sum.inr k)=some e
 |[],_=>⟨[],[],.nil,rfl,rfl,fun i e h=>by simp at h⟩
 |k::ss,h=>by
  obtain⟨es,us,f,g,j,h4⟩:=OQ d r l (ss:=ss) fun x a=>h x (List.mem_cons_of_mem _ a)
  rcases Val.EV d r k with⟨v,t,m,b,n⟩|⟨_,b⟩
  ·refine⟨v::es,t::us,.cons n f,by rw[List.map_cons,List.map_cons,g];congr 1,by rw[List.length_cons,List.length_cons,j],fun i e c=>?_⟩
   cases i with
   |zero=>simp at c;subst c;exact⟨k,by simp,m⟩
   |succ i=>
    obtain⟨o,a1,a2⟩:=h4 i e (by simpa using c)
    exact⟨o,by simpa using a1,a2⟩
  ·obtain⟨x,a⟩:=Pt.TX l (h k List.mem_cons_self)
   rw[a]at b
   cases b
theorem Val.kids {H:Hp} {v:V} {t:Pt} {l:List V} (m:Val H v t) (hold:DY t) (st:aE t l):∃(es:List V) (us:List Pt),Aa H es us/\IY t us/\es.length=l.length/\∀(i:Nat) e,es[i]?=some e->∃s,l[i]?=some s/\cD H v s e:=by
 cases m with
 |int i=>rw[show l=[]from st];exact⟨[],[],.nil,rfl,rfl,fun i e h=>by simp at h⟩
 |str i=>rw[show l=[]from st];exact⟨[],[],.nil,rfl,rfl,fun i e h=>by simp at h⟩
 |bl b=>exact hold.elim
 |tup _ _=>exact hold.elim
 |@lst a d f h r=>
  have e:=r.length
  rw[show l=_ from st]
  refine⟨d,f,r,rfl,by simp[e],fun i x g=>⟨.int (i:Int),?_,.inl ⟨a,d,i,rfl,h,rfl,g⟩⟩⟩
  have y:=(ADs g).1
  rw[List.getElem?_map,List.getElem?_range (by lia)]
  rfl
 |@BF a kvs z f h c r=>
  obtain⟨ss,rfl,j,n⟩:=st
  obtain⟨es,us,o,p,q,u⟩:=OQ c r hold.1 (ss:=ss) fun k c=>j.mem_iff.mp c
  refine⟨es,us,o,⟨ss,j,n,p⟩,by rw[List.length_map];exact q,fun i e w=>?_⟩
  obtain⟨k,k1,k2⟩:=u i e w
  exact⟨.str k,by rw[List.getElem?_map,k1];rfl,.inr ⟨a,kvs,k,rfl,h,rfl,k2⟩⟩
theorem TZ {t:Pt} (d:t.doc) (z:t.size<=900):DY t:=by
 cases t with
 |int i=>trivial
 |str x=>trivial
 |bl b=>simp[Pt.doc]at d
 |tup a=>simp[Pt.doc]at d
 |lst a=>simp only[Pt.size]at z;have:=Pt.CV a;exact show a.length<=900 by lia
 |BF c a=>simp only[Pt.doc]at d;exact⟨d.1,d.2.2.2.1⟩
def Pt.XX:Pt->String
 | .int _=>"int"
 | .str _=>"str"
 | .bl _=>"bool"
 | .lst _=>"list"
 | .tup _=>"tuple"
 | .BF _ _=>"dict"
theorem Val.ty {H:Hp} {v:V} {t:Pt} (h:Val H v t):aD K H v t.XX:=by
 cases h with
 |int i=>exact .n (.int i)
 |str x=>exact .n (.str x)
 |bl b=>exact .n (.bl b)
 |lst h _=>exact .n (.lst h)
 |tup h _=>exact .t h
 |BF h _ _=>exact .n (.dK h)
theorem Val.zA {H:Hp} {v:V} {t:Pt} (h:Val H v t) (d:t.doc):JK H v t.XX:=by
 cases h with
 |int i=>exact .int i
 |str x=>exact .str x
 |bl b=>exact .bl b
 |lst h _=>exact .lst h
 |tup h _=>simp[Pt.doc]at d
 |BF h _ _=>exact .dK h
def E':Sp:=fun b H Q _=>∃(v:V) (t:Pt),b=[v]/\Val H v t/\DY t/\∀(p:Addr) (l:List V) (a:Hp),AG H a->H p=none->a p=some (.lst l)->aE t l->Q (.ref p) a
def GY:Sp:=fun d H Q _=>∃(G:Hp) (v:V) (t:Pt),d=[v]/\AG G H/\Val G v t/\DY t/\∀(p:Addr) (b:List V) (c:List Pt) (a:Hp),AG H a->H p=none->a p=some (.lst b)->Aa G b c->IY t c->Q (.ref p) a
inductive Mg {K:ADv} [Ar K] (G H:Hp):List Addr->List (Pt×Pt)->Prop
 |nil:Mg G H [] []
 |cons {t:Addr} {u v:V} {p:Pt×Pt} {ts:List Addr} {ps:List (Pt×Pt)} (h:H t=some (.tup [u,v])) (a:Val G u p.1) (b:Val G v p.2) (r:Mg G H ts ps):Mg G H (t::ts) (p::ps)
end
section
variable{X:Cx}
inductive gD (K:ADv) (xs:List V) (H:Hp) (Q:VK):Prop
 |mk (p:Addr) (bs:List Bool) (a:xs=[.ref p]) (b:Ap K H p (bs.map V.bl)) (c:Q (.bl (bs.any id)) H):gD K xs H Q
theorem Vv (w:X.calm=true):BD X (.builtin "any") (gD X.K):=by
 intro pins s J H L M Q I r h
 obtain⟨p,bs,rfl,x,q⟩:=h
 obtain⟨u,rfl,k⟩:=vals1 r
 cases k
 obtain⟨c,l,pl,N⟩:=I.list x
 obtain⟨y,d,f⟩:=id pl.isList
 have m:p<s.heap.objs.size:=Heap.lt_size d
 have n:X.A.in1.handled=none:=I.ok.hd w
 have hlen:c.toArray.size=bs.length:=by rw[List.size_toArray,<-l.length,List.length_map]
 refine call_any_walk (wpAny_pyIter_list pl.isList ⟨s.heap.objs.size,_,_,_,_,_,fun i=>bs.getD i true,rfl,Walks.list n s.heap.objs.size p (Nat.ne_of_lt m) c.toArray,⟨⟨_,Heap.get?_push_size _ rfl,rfl,rfl⟩,⟨y,Heap.get?_push_of_some _ d,f⟩⟩,?_,fun O B kept=>?_⟩)
 ·intro i v C D P g j
  have g:c[i]?=some v:=by simpa using g
  have a:i<bs.length:=by
   have:=(ADs g).1
   rw[<-l.length,List.length_map]at this
   exact this
  have e:(bs.map V.bl)[i]?=some (V.bl bs[i]):=by rw[List.getElem?_map,ADr a];rfl
  obtain⟨u,t,k⟩:=l.get e
  rw[g]at t
  cases t
  cases k
  have E:bs.getD i true=bs[i]:=by rw[List.getD_eq_getElem?_getD,ADr a];rfl
  have j:D (bs.getD i true) C:=j
  rw[E]at j
  exact wpAny_truthy_bool j
 ·refine⟨.bl (bs.any id),H,I.kept (t':=B) fun b o e=>kept b o (fun z=>?_) (Heap.get?_push_of_some _ e),?_,q⟩
  ·have F:b=s.heap.objs.size:=by simpa using z
   exact Nat.ne_of_lt (Heap.lt_size e) F
  ·show Value.bool _=Value.bool _
   congr 1
   rw[hlen,Bool.eq_iff_iff,List.any_eq_true,List.any_eq_true]
   constructor
   ·intro⟨i,a,h⟩
    have a:=List.mem_range.mp a
    rw[List.getD_eq_getElem?_getD,ADr a]at h
    exact⟨_,List.getElem_mem a,h⟩
   ·intro⟨b,G,h⟩
    obtain⟨i,a,rfl⟩:=List.mem_iff_getElem.mp G
    exact⟨i,List.mem_range.mpr a,by rw[List.getD_eq_getElem?_getD,ADr a];exact h⟩
end
inductive Ak where
 |any
 |Ao (d:Pt)
 |row (xs:List Ak) (m:Bool)
 |tab (ks:List Str) (xs:List Ak) (ls:List Str) (m:Bool)
namespace Ak
mutual
def pt:Ak->Pt
 |any=>.tup [.str "any"]
 |Ao d=>.tup [.str "just",d]
 |row xs m=>.tup [.str "row",.lst (Fh xs),.bl m]
 |tab ks xs ls m=>.tup [.str "table",.BF ks (Fh xs),.lst (ls.map Pt.str),.bl m]
def Fh:List Ak->List Pt
 |[]=>[]
 |x::r=>pt x::Fh r
end
theorem BH:∀xs:List Ak,Fh xs=xs.map pt
 |[]=>rfl
 |x::r=>by simp only[Fh,List.map_cons,BH r]
mutual
def size:Ak->Nat
 |any=>1
 |Ao _=>1
 |row xs _=>1+AJ xs
 |tab _ xs _ _=>1+AJ xs
def AJ:List Ak->Nat
 |[]=>0
 |x::r=>size x+AJ r
end
mutual
def deep:Ak->Nat
 |any=>1
 |Ao _=>1
 |row xs _=>1+AV xs
 |tab _ xs _ _=>1+AV xs
def AV:List Ak->Nat
 |[]=>0
 |x::r=>max (deep x) (AV r)
end
mutual
def ok:Ak->Prop
 |any=>True
 |Ao d=>Sm d/\d.doc/\d.size<=10
 |row xs _=>HU xs
 |tab ks xs ls _=>ks.length=xs.length/\ks.Nodup/\(∀k∈ks,CB k=true)/\ks.length<60/\(ls.length<=60/\ls.Nodup/\sortedS ls=true)/\(∀l∈ls,l∉ks)/\HU xs
def HU:List Ak->Prop
 |[]=>True
 |x::r=>ok x/\HU r
end
theorem size_pos (t:Ak):1<=t.size:=by cases t<;>simp only[size]<;>lia
theorem D' (t:Ak):1<=t.deep:=by cases t<;>simp only[deep]<;>lia
theorem CV:∀xs:List Ak,xs.length<=AJ xs
 |[]=>Nat.le_refl _
 |x::r=>by have:=CV r;have:=size_pos x;simp only[List.length_cons,AJ];lia
theorem Bj:∀{xs:List Ak} {x:Ak},x∈xs->x.size<=AJ xs
 |y::r,x,h=>by
  simp only[AJ]
  rcases List.mem_cons.mp h with rfl|h
  ·lia
  ·have:=Bj h;lia
theorem BC:∀{xs:List Ak} {x:Ak},x∈xs->x.deep<=AV xs
 |y::r,x,h=>by
  simp only[AV]
  rcases List.mem_cons.mp h with rfl|h
  ·lia
  ·have:=BC h;lia
theorem GZ:∀{xs:List Ak},HU xs->∀x∈xs,ok x
 |y::r,h,x,a=>by
  simp only[HU]at h
  rcases List.mem_cons.mp a with rfl|a
  ·exact h.1
  ·exact GZ h.2 x a
theorem Vw:∀{xs:List Ak},(∀x∈xs,ok x)->HU xs
 |[],_=>trivial
 |x::r,h=>⟨h x List.mem_cons_self,Vw fun y a=>h y (List.mem_cons_of_mem _ a)⟩
def cnt (c l:Nat) (m:Bool):Bool:=c==l||(m&&decide (l<c))
mutual
def lets:Ak->Pt->Bool
 |any,_=>true
 |Ao d,t=>Pt.Bw d t
 |row xs m,.lst ys=>cnt ys.length xs.length m&&FA xs ys
 |tab ks xs ls m,.BF a ys=>(ks.all (fun k=>decide (k∈a))&& !(ls.any fun k=>decide (k∈a))&&cnt a.length ks.length m)&&Je ks xs a ys
 |_,_=>false
def FA:List Ak->List Pt->Bool
 |a::as,y::ys=>lets a y&&FA as ys
 |_,_=>true
def Je:List Str->List Ak->List Str->List Pt->Bool
 |k::ks,x::xs,a,ys=>(match lk a ys k with|some y=>lets x y|none=>false)&&Je ks xs a ys
 |_,_,_,_=>true
end
theorem Fv {a:List Str} {ys:List Pt}:∀{ks:List Str} {xs:List Ak},Je ks xs a ys=Ha lets ks xs a ys
 |[],xs=>by simp[Je,Ha]
 |_::_,[]=>by simp[Je,Ha]
 |k::ks,x::xs=>by simp only[Je,Ha];rw[Fv];try(cases lk a ys k<;>rfl)
theorem LS:∀{xs:List Ak} {ys:List Pt},FA xs ys=(xs.zip ys).all fun p=>lets p.1 p.2
 |[],_=>by simp[FA]
 |_::_,[]=>by simp[FA]
 |x::xs,y::ys=>by simp only[FA,List.zip_cons_cons,List.all_cons];rw[LS]
def Kp:Ak->Pt->List (Ak×Pt)->Prop
 |row xs _,.lst ys,ps=>ps=xs.zip ys
 |tab ks xs _ _,.BF a ys,ps=>∃(ss:List Str) (as:List Ak) (bs:List Pt),ss.Perm ks/\ss.map (lk ks xs)=as.map some/\ss.map (lk a ys)=bs.map some/\ps=as.zip bs
 |_,_,ps=>ps=[]
def hold:Ak->Pt
 |row xs _=>.lst (Fh xs)
 |tab ks xs _ _=>.BF ks (Fh xs)
 |_=>.lst []
end Ak
section
variable{K:ADv} [Ar K]
theorem Val.ak {H:Hp} {v:V} {a:Ak} (h:Val H v a.pt):∃(t:Addr) (w:Str) (rest:List V),v=.ref t/\BY K H t (.str w::rest)/\
  ((a=.any/\w="any"/\rest=[])∨(∃d u,a=.Ao d/\w="just"/\rest=[u]/\Val H u d)∨(∃xs m u,a=.row xs m/\w="row"/\rest=[u,.bl m]/\Val H u (.lst (Ak.Fh xs)))∨∃ks xs ls m u z,a=.tab ks xs ls m/\w="table"/\rest=[u,z,.bl m]/\Val H u (.BF ks (Ak.Fh xs))/\Val H z (.lst (ls.map Pt.str))):=by
 cases a with
 |any=>
  obtain⟨t,g,rfl,h,r⟩:=Val.tupI h
  obtain⟨i,j,rfl,b,c⟩:=r.Fq
  cases b.YQ
  cases c.YS
  exact⟨_,_,_,rfl,h,.inl ⟨rfl,rfl,rfl⟩⟩
 |Ao d=>
  obtain⟨t,g,rfl,h,r⟩:=Val.tupI h
  obtain⟨i,j,rfl,b,c⟩:=r.Fq
  obtain⟨n,o,rfl,e,f⟩:=c.Fq
  cases b.YQ
  cases f.YS
  exact⟨_,_,_,rfl,h,.inr (.inl ⟨d,_,rfl,rfl,rfl,e⟩)⟩
 |row xs m=>
  obtain⟨t,g,rfl,h,r⟩:=Val.tupI h
  obtain⟨i,j,rfl,b,c⟩:=r.Fq
  obtain⟨n,o,rfl,e,f⟩:=c.Fq
  obtain⟨p,q,rfl,k,l⟩:=f.Fq
  cases b.YQ
  cases k.vd
  cases l.YS
  exact⟨_,_,_,rfl,h,.inr (.inr (.inl ⟨xs,m,_,rfl,rfl,rfl,e⟩))⟩
 |tab ks xs ls m=>
  obtain⟨t,g,rfl,h,r⟩:=Val.tupI h
  obtain⟨i,j,rfl,b,c⟩:=r.Fq
  obtain⟨n,o,rfl,e,f⟩:=c.Fq
  obtain⟨p,q,rfl,k,l⟩:=f.Fq
  obtain⟨y,A,rfl,s,x⟩:=l.Fq
  cases b.YQ
  cases s.vd
  cases x.YS
  exact⟨_,_,_,rfl,h,.inr (.inr (.inr ⟨ks,xs,ls,m,_,_,rfl,rfl,rfl,e,k⟩))⟩
end
section
variable{K:ADv} [Ar K]
theorem Ga {a:Type}:∀{ks:List Str} {xs:List a},ks.length=xs.length->ks.Nodup->ks.map (lk ks xs)=xs.map some:=by
 intro ks
 induction ks with
 |nil=>intro xs l _;cases xs with|nil=>rfl|cons _ _=>simp at l
 |cons k r b=>
  intro xs l nd
  cases xs with
  |nil=>simp at l
  |cons x xs=>
   obtain⟨c,d⟩:=List.nodup_cons.mp nd
   rw[List.map_cons,List.map_cons,Bn,if_pos rfl,<-b (by simpa using l) d]
   congr 1
   exact List.map_congr_left fun y e=>by rw[Bn,if_neg (fun z=>c (by rw[<-z];exact e))]
theorem Cu {a:Type} {ks ss:List Str} {xs as:List a} (l:ks.length=xs.length) (nd:ks.Nodup) (b:ss.Perm ks) (e:ss.map (lk ks xs)=as.map some):as.Perm xs:=by
 have c:(as.map some).Perm (xs.map some):=by rw[<-e,<-Ga l nd];exact b.map _
 have d:=c.filterMap id
 simpa using d
theorem Hd {b:Type} {ks:List Str} {xs:List b} (l:ks.length=xs.length):∀{ss:List Str},(∀k∈ss,k∈ks)->∃as:List b,ss.map (lk ks xs)=as.map some
 |[],_=>⟨[],rfl⟩
 |k::ss,h=>by
  obtain⟨as,e⟩:=Hd l (ss:=ss) fun x a=>h x (List.mem_cons_of_mem _ a)
  obtain⟨x,a⟩:=FP l (h k List.mem_cons_self)
  exact⟨x::as,by rw[List.map_cons,List.map_cons,a,e]⟩
theorem Fw {a b:Type} (f:a->b) {k:Str}:∀{ks:List Str} {xs:List a},lk ks (xs.map f) k=(lk ks xs k).map f
 |[],xs=>by simp[lk]
 |_::_,[]=>by simp[lk]
 |y::ks,x::xs=>by
  rw[List.map_cons,Bn,Bn]
  by_cases e:k=y
  ·rw[if_pos e,if_pos e];rfl
  ·rw[if_neg e,if_neg e];exact Fw f
def gE:List (Ak×Pt)->Nat
 |[]=>0
 |p::r=>p.1.size+gE r
theorem ES {a b:List Ak} (p:a.Perm b):Ak.AJ a=Ak.AJ b:=by
 induction p with
 |nil=>rfl
 |cons x _ c=>simp only[Ak.AJ,c]
 |swap x y l=>simp only[Ak.AJ];lia
 |trans _ _ d e=>exact d.trans e
structure Prs (G:Hp) (u v:V) (a:Ak) (t:Pt) (l es fs:List V) (ps:List (Ak×Pt)):Prop where
 le:es.length=l.length
 lf:fs.length=l.length
 lp:ps.length=l.length
 ge:∀(i:Nat) e,es[i]?=some e->∃s,l[i]?=some s/\cD G u s e
 gf:∀(i:Nat) e,fs[i]?=some e->∃s,l[i]?=some s/\cD G v s e
 va:∀(i:Nat) e p,es[i]?=some e->ps[i]?=some p->Val G e p.1.pt
 vb:∀(i:Nat) e p,fs[i]?=some e->ps[i]?=some p->Val G e p.2
 kp:Ak.Kp a t ps
 ok:∀p∈ps,p.1.ok/\p.2.doc/\p.1.size<a.size/\p.2.size<t.size
 sm:gE ps<a.size
end
section
variable{K:ADv} [Ar K]
def nw (H a:Hp):Hp:=fun b=>match H b with
 |none=>a b
 |some _=>none
theorem Av {H a:Hp} {b:Addr} (h:H b=none):nw H a b=a b:=by unfold nw;rw[h]
theorem DK {H a:Hp} {b:Addr} {o} (h:H b=some o):nw H a b=none:=by unfold nw;rw[h]
theorem DL {H a:Hp}:AG (nw H a) a:=fun b o e=>by
 cases h:H b with
 |none=>rw[Av h]at e;exact e
 |some z=>rw[DK h]at e;cases e
structure Bt (o:Option Addr) (H H':Hp):Prop where
 keep:∀b e,o≠some b->H b=some e->H' b=some e
 FQ:∀b,H' b=none->H b=none
theorem Bt.refl {o:Option Addr} {H:Hp}:Bt o H H:=⟨fun _ _ _ e=>e,fun _ h=>h⟩
theorem Bt.of {o:Option Addr} {H a:Hp} (s:AG H a):Bt o H a:=⟨fun b e _ h=>s b e h,fun b h=>s.free h⟩
theorem Bt.same {H a:Hp} (s:Bt none H a):AG H a:=fun b e h=>s.keep b e (fun z=>nomatch z) h
theorem Bt.trans {o:Option Addr} {H d H2:Hp} (a:Bt o H d) (b:Bt o d H2):Bt o H H2:=⟨fun c e n h=>b.keep c e n (a.keep c e n h),fun c h=>a.FQ c (b.FQ c h)⟩
theorem Cm {H:Hp} {p b:Addr} {o:HO} (h:upd H p o b=none):b≠p/\H b=none:=by
 by_cases e:b=p
 ·subst e;rw[AE]at h;cases h
 ·rw[AK e]at h;exact⟨e,h⟩
theorem Bt.put {l:Addr} {H d:Hp} {o:HO} (a:Bt (some l) H d):Bt (some l) H (upd d l o):=⟨fun c e n h=>by rw[AK (fun z=>n (by rw[z]))];exact a.keep c e n h,fun b h=>a.FQ b (Cm h).2⟩
theorem Bt.new {o:Option Addr} {p:Addr} {H f:Hp} {e:HO} (a:Bt o H f) (h:H p=none):Bt o H (upd f p e):=⟨fun c g n d=>by rw[AK (fun z=>by rw[z,h]at d;cases d)];exact a.keep c g n d,fun b h=>a.FQ b (Cm h).2⟩
def Dk (l:Addr) (H:Hp):Hp:=fun b=>if b=l then none else H b
theorem DM {l b:Addr} {H:Hp} (h:b≠l):Dk l H b=H b:=by unfold Dk;rw[if_neg h]
theorem DZ {l:Addr} {H:Hp}:AG (Dk l H) H:=fun b o e=>by
 unfold Dk at e
 by_cases h:b=l
 ·rw[if_pos h]at e;cases e
 ·rw[if_neg h]at e;exact e
theorem Bt.Dk {l:Addr} {H a:Hp} (s:Bt (some l) H a):AG (Dk l H) (Dk l a):=fun b o e=>by
 by_cases h:b=l
 ·unfold L2.Dk at e;rw[if_pos h]at e;cases e
 ·rw[DM h]at e⊢;exact s.keep _ _ (fun z=>h (ADt z).symm) e
theorem BX {H a H2 c:Hp} (d:∀b,a b=none->H b=none) (s:∀b o,a b=none->H2 b=some o->c b=some o):AG (nw a H2) (nw H c):=fun b o e=>by
 cases h:a b with
 |none=>rw[Av h]at e;rw[Av (d b h)];exact s b o h e
 |some z=>rw[DK h]at e;cases e
theorem Aa.snoc {H:Hp} {vs:List V} {ts:List Pt} {v:V} {t:Pt} (h:Aa H vs ts) (g:Val H v t):Aa H (vs++[v]) (ts++[t]):=h.append (.cons g .nil)
section
variable{J:It} {te:TE} {fs:List Nat} {σ:St} {H:Hp} {Q:VK}
theorem DN (o:Option Addr) (n:Nat) (item:Nat->V) (a:Nat->List Pt->Hp->Prop) (S:n<=1000) (F:∀D,H D=none->a 0 [] (upd H D (.lst [])))
  (G:∀i us H2 D ws,Bt o H H2->H D=none->a i us H2->a i us (upd H2 D (.lst ws))) (hl:∀l,o=some l->H l≠none)
  (x:∀i us H2,i<n->Bt o H H2->a i us H2->J.go i H2) (I:∀i us H2 v p,i<n->Bt o H H2->a i us H2->J.Sf i H2 v p->v=item i/\p=H2) (A:∀us H2,Bt o H H2->a n us H2->J.stop n H2)
  (L:∀i us H2 (R:VK),i<n->Bt o H H2->a i us H2->us.length=i->(∀w u f,Bt o H2 f->Val (nw H2 f) w u->a (i+1) (us++[u]) f->R w f)->te (some (item i)::Cq σ fs) H2 R)
  (M:∀D H2 ws us,H D=none->Bt o H H2->H2 D=some (.lst ws)->us.length=n->Aa (nw H H2) ws us->a n us H2->Q (.ref D) H2):Ft J QH te fs σ H Q:=by
 refine Ri n item (fun D i H2=>H D=none/\Bt o H H2/\∃ws us,H2 D=some (.lst ws)/\us.length=i/\Aa (nw (upd H D (.lst [])) H2) ws us/\a i us H2)
  (fun D c=>⟨c,.new .refl c,[],[],AE,rfl,.nil,F D c⟩) (fun D i H2 g ⟨_,s,ws,us,_,_,_,d⟩=>x i us H2 g s d) (fun D i H2 v p g ⟨_,s,ws,us,_,_,_,d⟩ y=>I i us H2 v p g s d y) (fun D H2 ⟨_,s,ws,us,_,_,_,d⟩=>A us H2 s d) (fun D i H2 _ g ⟨c,s,ws,us,j,q,r,d⟩=>?_) (fun D H2 _ ⟨c,s,ws,us,j,q,r,d⟩=>?_)
 ·refine L i us H2 _ g s d q fun w u f t N B=>?_
  have O:o≠some D:=fun z=>hl D z c
  have P:=t.keep D _ O j
  have T:=r.length
  have E:∀b,upd H D (.lst []) b=none->b≠D/\H b=none:=fun b h=>Cm h
  refine⟨ws,P,Nat.lt_of_le_of_lt (by lia) (BV (Nat.le_refl 1000)),c,(s.trans t).new c,ws++[w],us++[u],AE,by simp[q],Aa.snoc (r.up (BX (fun b h=>h) fun b e k C=>?_)) (N.up (BX (fun b h=>?_) fun b e k C=>?_)),G _ _ _ _ _ (s.trans t) c B⟩
  ·have m:=(E b k).1
   rw[AK m]
   refine t.keep b e (fun z=>?_) C
   exact hl b z (E b k).2
  ·have m:b≠D:=fun z=>by rw[z,j]at h;cases h
   rw[AK m]
   exact s.FQ b h
  ·have m:b≠D:=fun z=>by rw[z,j]at k;cases k
   rw[AK m]
   exact C
 ·exact M D H2 ws us c s j q (r.up (BX (fun b h=>(Cm h).2) fun b e _ h=>h)) d
theorem LU (o:Option Addr) (n:Nat) (item:Nat->V) (ks:List Str) (c:Nat->List Pt->Hp->Prop) (hn:n<=1000) (h0:∀D,H D=none->c 0 [] (upd H D (.lst [])))
  (U:∀i us H2 D e,Bt o H H2->(H D=none)->c i us H2->c i us (upd H2 D e)) (hl:∀l,o=some l->H l≠none)
  (I:∀i us H2,i<n->Bt o H H2->c i us H2->J.go i H2) (hy:∀i us H2 v C,i<n->Bt o H H2->c i us H2->J.Sf i H2 v C->v=item i/\C=H2) (L:∀us H2,Bt o H H2->c n us H2->J.stop n H2)
  (he:∀i us H2 (R:VK),i<n->Bt o H H2->c i us H2->us.length=i->(∀w u k t,Bt o H2 k->Val (nw H2 k) w u->c (i+1) (us++[u]) k->k t=none->R (.ref t) (upd k t (.tup [.str (ks.getD i ""),w])))->te (some (item i)::Cq σ fs) H2 R)
  (hQ:∀D H2 (ts:List Addr) ws us,H D=none->Bt o H H2->H2 D=some (.lst (ts.map V.ref))->ts.length=n->us.length=n->(∀(j:Nat) t w,ts[j]?=some t->ws[j]?=some w->H2 t=some (.tup [.str (ks.getD j ""),w])/\H t=none)->Aa (nw H H2) ws us->c n us H2->Q (.ref D) H2):Ft J QH te fs σ H Q:=by
 refine Ri n item (fun D i H2=>H D=none/\Bt o H H2/\∃(ts:List Addr) (ws:List V) (us:List Pt),H2 D=some (.lst (ts.map V.ref))/\ts.length=i/\us.length=i/\(∀(j:Nat) t w,ts[j]?=some t->ws[j]?=some w->H2 t=some (.tup [.str (ks.getD j ""),w])/\H t=none)/\Aa (nw (upd H D (.lst [])) H2) ws us/\c i us H2)
  (fun D d=>⟨d,.new .refl d,[],[],[],AE,rfl,rfl,(fun j t w h=>by simp at h),.nil,h0 D d⟩) (fun D i H2 r ⟨_,s,ts,ws,us,_,_,_,_,_,g⟩=>I i us H2 r s g) (fun D i H2 v C r ⟨_,s,ts,ws,us,_,_,_,_,_,g⟩ y=>hy i us H2 v C r s g y) (fun D H2 ⟨_,s,ts,ws,us,_,_,_,_,_,g⟩=>L us H2 s g) (fun D i H2 _ r ⟨d,s,ts,ws,us,x,lt,E,M,F,g⟩=>?_) (fun D H2 _ ⟨d,s,ts,ws,us,x,lt,E,M,F,g⟩=>?_)
 ·refine he i us H2 _ r s g E fun w u k t m vw N p=>?_
  have oD:o≠some D:=fun z=>hl D z d
  have O:=m.keep D _ oD x
  have X:t≠D:=fun z=>by rw[z,O]at p;cases p
  have d4:upd k t (.tup [.str (ks.getD i ""),w]) D=some (.lst (ts.map V.ref)):=by rw[AK (Ne.symm X)];exact O
  have lw:=F.length
  have G:H t=none:=(s.trans m).FQ t p
  have Y:∀b,upd H D (.lst []) b=none->b≠D/\H b=none:=fun b h=>Cm h
  refine⟨ts.map V.ref,d4,Nat.lt_of_le_of_lt (by rw[List.length_map];lia) (BV (Nat.le_refl 1000)),d,((s.trans m).new G).new d,ts++[t],ws++[w],us++[u],by rw[AE,List.map_append];rfl,by simp[lt],by simp[E],fun j q Z a f=>?_,Aa.snoc (F.up (BX (fun b h=>h) fun b e a f=>?_)) (vw.up (BX (fun b h=>?_) fun b e a f=>?_)),U _ _ _ _ _ ((s.trans m).new G) d (U _ _ _ _ _ (s.trans m) G N)⟩
  ·by_cases hj:j<ts.length
   ·rw[List.getElem?_append_left hj]at a
    rw[List.getElem?_append_left (by lia)]at f
    obtain⟨g1,g2⟩:=M j q Z a f
    have A:=m.keep q _ (fun z=>hl q z g2) g1
    have n1:q≠t:=fun z=>by rw[z,p]at A;cases A
    have n2:q≠D:=fun z=>by rw[z,O]at A;cases A
    exact⟨by rw[AK n2,AK n1];exact A,g2⟩
   ·have P:=(ADs a).1
    rw[List.length_append,List.length_singleton]at P
    have ej:j=i:=by lia
    subst ej
    rw[List.getElem?_append_right (by lia),lt,Nat.sub_self]at a
    have e1:t=q:=by simpa using a
    subst e1
    rw[List.getElem?_append_right (by lia),show j-ws.length=0 by lia]at f
    have e2:w=Z:=by simpa using f
    subst e2
    exact⟨by rw[AK X,AE],G⟩
  ·have B:=(Y b a).1
   have hb:=(Y b a).2
   have S:=m.keep b e (fun z=>hl b z hb) f
   have T:b≠t:=fun z=>by rw[z,p]at S;cases S
   rw[AK B,AK T]
   exact S
  ·have B:b≠D:=fun z=>by rw[z,x]at h;cases h
   rw[AK B]
   exact s.FQ b h
  ·have B:b≠D:=fun z=>by rw[z,x]at a;cases a
   have T:b≠t:=fun z=>by rw[z,p]at f;cases f
   rw[AK B,AK T]
   exact f
 ·exact hQ D H2 ts ws us d s x lt E M (F.up (BX (fun b h=>(Cm h).2) fun b e _ h=>h)) g
end
mutual
def Pt.nice:Pt->Prop
 | .int _| .str _| .bl _=>True
 | .lst xs| .tup xs=>xs.length<=900/\Pt.DO xs
 | .BF ks xs=>ks.length=xs.length/\ks.Nodup/\ks.length<=900/\Pt.DO xs
def Pt.DO:List Pt->Prop
 |[]=>True
 |x::r=>Pt.nice x/\Pt.DO r
end
theorem Pt.FR:∀{xs:List Pt},Pt.DO xs->∀x∈xs,x.nice
 |y::r,h,x,a=>by
  simp only[Pt.DO]at h
  rcases List.mem_cons.mp a with rfl|a
  ·exact h.1
  ·exact Pt.FR h.2 x a
theorem Pt.OR:∀{xs:List Pt},(∀x∈xs,x.nice)->Pt.DO xs
 |[],_=>trivial
 |x::r,h=>⟨h x List.mem_cons_self,Pt.OR fun y a=>h y (List.mem_cons_of_mem _ a)⟩
mutual
theorem Pt.Gb:∀t:Pt,t.doc->t.size<=900->t.nice
 | .int _,_,_=>trivial
 | .str _,_,_=>trivial
 | .bl _,d,_=>by simp[Pt.doc]at d
 | .tup _,d,_=>by simp[Pt.doc]at d
 | .lst xs,d,z=>by
  simp only[Pt.doc]at d
  simp only[Pt.size]at z
  have:=Pt.CV xs
  simp only[Pt.nice]
  exact⟨by lia,Pt.He xs d (by lia)⟩
 | .BF a xs,d,z=>by
  simp only[Pt.doc]at d
  simp only[Pt.size]at z
  simp only[Pt.nice]
  exact⟨d.1,d.2.1,by lia,Pt.He xs d.2.2.2.2 (by lia)⟩
theorem Pt.He:∀xs:List Pt,Pt.CH xs->Pt.AJ xs<=900->Pt.DO xs
 |[],_,_=>trivial
 |x::r,d,z=>by
  simp only[Pt.CH]at d
  simp only[Pt.AJ]at z
  exact⟨Pt.Gb x d.1 (by lia),Pt.He r d.2 (by lia)⟩
end
def EH (ks:List Str) (ws:List V):List (Key×V):=(ks.zip ws).map fun p=>(Sum.inr p.1,p.2)
theorem CT {ks:List Str} {ws:List V} (l:ks.length=ws.length):(EH ks ws).map (·.1)=ks.map Sum.inr:=by
 unfold EH
 rw[List.map_map]
 have:(ks.zip ws).map Prod.fst=ks:=List.map_fst_zip (by lia)
 conv=>rhs;rw[<-this,List.map_map]
 rfl
theorem EB {ks:List Str} {ws:List V} (l:ks.length=ws.length):(EH ks ws).map (·.2)=ws:=by
 unfold EH
 rw[List.map_map]
 have:(ks.zip ws).map Prod.snd=ws:=List.map_snd_zip (by lia)
 conv=>rhs;rw[<-this]
 rfl
theorem FT {ks:List Str} {ws:List V} (l:ks.length=ws.length):(EH ks ws).length=ks.length:=by
 have:=congrArg List.length (CT l)
 simpa using this
theorem Rj {ks:List Str} {ws:List V} {j:Nat} {k:Key} {v:V} (h:(EH ks ws)[j]?=some (k,v)):∃nm,ks[j]?=some nm/\ws[j]?=some v/\k=Sum.inr nm:=by
 unfold EH at h
 rw[List.getElem?_map]at h
 cases e:(ks.zip ws)[j]? with
 |none=>rw[e]at h;cases h
 |some p=>
  obtain⟨x,y⟩:=p
  rw[e]at h
  have h:=ADt h
  rw[List.getElem?_zip_eq_some]at e
  have a:(Sum.inr x:Key)=k:=congrArg Prod.fst h
  have b:y=v:=congrArg Prod.snd h
  subst a b
  exact⟨x,e.1,e.2,rfl⟩
theorem Hg {ks:List Str} {ws:List V} (l:ks.length=ws.length) (nd:ks.Nodup):CG [] (EH ks ws)=EH ks ws:=ET _ _ (by
 have:((EH ks ws).map (·.1)).Nodup:=by
  rw[CT l]
  exact List.Pairwise.map _ (fun a b h z=>h (Sum.inr.inj z)) nd
 simpa using this)
theorem QX {kvs:List (Key×V)} {ks:List Str} (c:kvs.map (·.1)=ks.map Sum.inr) {i:Nat} {k:Key} {v:V} (e:kvs[i]?=some (k,v)):i<ks.length/\k=Sum.inr (ks.getD i ""):=by
 have d:kvs.length=ks.length:=by have:=congrArg List.length c;simpa using this
 have a:=(ADs e).1
 rw[d]at a
 refine⟨a,?_⟩
 have b:=congrArg (fun z=>z[i]?) c
 simp only[List.getElem?_map,e,ADr a]at b
 have b:k=Sum.inr ks[i]:=by simpa using b
 rw[b,List.getD_eq_getElem?_getD,ADr a]
 rfl
theorem QY {H:Hp}:∀{kvs:List (Key×V)} {ks:List Str} {ts:List Pt},kvs.map (·.1)=ks.map Sum.inr->Aa H (kvs.map (·.2)) ts->ks.Nodup->∀{i:Nat},i<ks.length->∃v t,CF kvs (Sum.inr (ks.getD i ""))=some v/\ts[i]?=some t/\Val H v t
 |[],[],_,_,_,_,i,h=>by simp at h
 |[],_::_,_,h,_,_,_,_=>by simp at h
 |_::_,[],_,h,_,_,_,_=>by simp at h
 |(y,v)::kvs,x::ks,_,h,.cons b r,nd,0,c=>by
  simp only[List.map_cons,List.cons.injEq]at h
  obtain⟨e,h⟩:=h
  subst e
  exact⟨v,_,DE rfl,by simp,b⟩
 |(y,v)::kvs,x::ks,_,h,.cons b r,nd,i+1,c=>by
  simp only[List.map_cons,List.cons.injEq]at h
  obtain⟨e,h⟩:=h
  subst e
  obtain⟨d,f⟩:=List.nodup_cons.mp nd
  have a:i<ks.length:=by simpa using c
  obtain⟨w,t,g,j,k⟩:=QY h r f a
  have l:(x::ks).getD (i+1) ""=ks.getD i "":=by simp
  rw[l]
  refine⟨w,t,?_,by simpa using j,k⟩
  rw[DF (fun z=>d ?_)]
  ·exact g
  ·have z:=Sum.inr.inj z
   rw[z,List.getD_eq_getElem?_getD,ADr a]
   exact List.getElem_mem a
mutual
def Pt.wide:Pt->Nat
 | .int _| .str _| .bl _=>0
 | .lst xs| .tup xs=>Pt.CC xs
 | .BF ks xs=>max ks.length (Pt.CC xs)
def Pt.CC:List Pt->Nat
 |[]=>0
 |x::r=>max (Pt.wide x) (Pt.CC r)
end
theorem Pt.LV:∀{xs:List Pt} {x:Pt},x∈xs->x.wide<=Pt.CC xs
 |y::r,x,h=>by
  simp only[Pt.CC]
  rcases List.mem_cons.mp h with rfl|h
  ·lia
  ·have:=Pt.LV h;lia
theorem Pt.EW (a b:List Pt):Pt.CC (a++b)=max (Pt.CC a) (Pt.CC b):=by
 induction a with
 |nil=>simp[Pt.CC]
 |cons x r c=>simp only[List.cons_append,Pt.CC,c];lia
theorem OS {n:Nat}:∀{us:List Pt},(∀u∈us,u.wide<=n)->Pt.CC us<=n
 |[],_=>by simp[Pt.CC]
 |x::r,h=>by
  have b:=h x List.mem_cons_self
  have c:=OS (us:=r) fun y a=>h y (List.mem_cons_of_mem _ a)
  simp only[Pt.CC];lia
mutual
theorem Pt.EC:∀t:Pt,t.doc->t.wide<=t.size
 | .int _,_=>by simp[Pt.wide]
 | .str _,_=>by simp[Pt.wide]
 | .bl _,_=>by simp[Pt.wide]
 | .tup _,d=>by simp[Pt.doc]at d
 | .lst xs,d=>by
  simp only[Pt.doc]at d
  have:=Pt.EX xs d
  simp only[Pt.wide,Pt.size];lia
 | .BF a xs,d=>by
  simp only[Pt.doc]at d
  have:=Pt.EX xs d.2.2.2.2
  have:=Pt.CV xs
  simp only[Pt.wide,Pt.size];lia
theorem Pt.EX:∀xs:List Pt,Pt.CH xs->Pt.CC xs<=Pt.AJ xs
 |[],_=>by simp[Pt.CC]
 |x::r,d=>by
  simp only[Pt.CH]at d
  have:=Pt.EC x d.1
  have:=Pt.EX r d.2
  simp only[Pt.CC,Pt.AJ];lia
end
structure Ta (H:Hp) (n:Addr) (ys:List Str):Prop where
 at_:H n=some (.lst (ys.map V.str))
 len:ys.length=4
 nd:ys.Nodup
 nb:∀y∈ys,CB y=true
theorem Ta.up {H a:Hp} {n:Addr} {ys:List Str} (h:Ta H n ys) (s:AG H a):Ta a n ys:=⟨s _ _ h.at_,h.len,h.nd,h.nb⟩
theorem Ta.but {H a:Hp} {n l:Addr} {ys:List Str} (h:Ta H n ys) (s:Bt (some l) H a) (nl:n≠l):Ta a n ys:=⟨s.keep _ _ (fun z=>nl (ADt z).symm) h.at_,h.len,h.nd,h.nb⟩
def Jf:Sp:=fun b H Q _=>∃c:Int,b=[.int c]/\∀(p:Addr) (d:List Str) (a:Hp),AG H a->H p=none->Ta a p d->Q (.ref p) a
structure Small (H H':Hp) (v:V) (t:Pt):Prop where
 val:Val (nw H H') v t
 sm:Sm t
 doc:t.doc
 size:t.size<=4
 deep:t.deep<=2
def Hh:Sp:=fun b H Q _=>∃(c:Int) (k:Nat) (n:Addr) (d:List Str),b=[.int c,.int (k:Int),.ref n]/\k<=1000/\Ta H n d/\∀(v:V) (t:Pt) (a:Hp),AG H a->Small H a v t->Q v a
def Dd (n:Nat):Sp:=fun b H Q _=>∃(v:V) (t:Pt),b=[v]/\Val H v t/\t.nice/\t.deep<=n/\∀(w:V) (a:Hp),AG H a->Val (nw H a) w t->Q w a
def Jg (n:Nat):Sp:=fun f H Q _=>∃(l:Addr) (d:Nat) (nm:Addr) (c:List Int) (g:List Str),f=[.ref l,.int (d:Int),.ref nm]/\d+4<=n/\H l=some (.lst (c.map V.int))/\c.length<=100/\nm≠l/\Ta H nm g/\
 ∀(v:V) (a:Ak) (b:List Int) (e:Hp),Bt (some l) H e->e l=some (.lst (b.map V.int))->b.length<=c.length->Val (nw H e) v a.pt->a.ok->a.size<=1+4*(c.length-b.length)->a.deep<=d+1->Q v e
def ov (G H a:Hp):Hp:=fun b=>match G b with
 |some o=>some o
 |none=>nw H a b
theorem Ho {G H a:Hp}:AG G (ov G H a):=fun b o e=>by unfold ov;rw[e]
theorem QZ {G H a:Hp} (s:AG G H) (c:AG H a):AG (ov G H a) a:=fun b o e=>by
 unfold ov at e
 cases h:G b with
 |some z=>rw[h]at e;cases e;exact c _ _ (s _ _ h)
 |none=>rw[h]at e;exact DL _ _ e
def Mh:Sp:=fun e H Q _=>∃(v:V) (a:Ak) (c:Int) (nm:Addr) (f:List Str),e=[v,.int c,.ref nm]/\Val H v a.pt/\a.ok/\a.size<=57/\a.deep<=5/\Ta H nm f/\
 ∀(w:V) (b:Ak) (d:Hp),AG H d->Val d w b.pt->b.ok->b.size<=70->b.deep<=15->Q w d
end
section
variable{K:ADv} [Ar K]
theorem OT {a:List (Key×V)} {b:List Str} (c:a.map (·.1)=b.map Sum.inr) (k:Str):(CF a (Sum.inr k)).isSome=decide (k∈b):=by
 rw[Bool.eq_iff_iff,decide_eq_true_iff]
 have d:(Sum.inr k:Key)∈a.map (·.1)↔k∈b:=by
  rw[c]
  constructor
  ·intro h
   obtain⟨y,f,e⟩:=List.mem_map.mp h
   rw[<-Sum.inr.inj e];exact f
  ·exact fun h=>List.mem_map_of_mem h
 rw[<-d]
 cases e:CF a (Sum.inr k:Key)with
 |none=>simp only[Option.isSome_none];exact⟨(fun h=>nomatch h),fun h=>absurd h (Ut e)⟩
 |some z=>simp only[Option.isSome_some];exact⟨fun _=>RS e,fun _=>trivial⟩
theorem FU (a:List Str) (p:Str->Bool):((List.range a.length).filter fun i=>p (a.getD i "")).map (fun i=>V.str (a.getD i ""))=(a.filter p).map V.str:=by
 induction a with
 |nil=>rfl
 |cons x r b=>
  rw[List.length_cons,List.range_succ_eq_map,List.filter_cons,List.filter_cons,List.filter_map,List.getD_cons_zero]
  have e:((fun i=>p ((x::r).getD i ""))∘Nat.succ)=fun i=>p (r.getD i ""):=by funext i;simp
  have c:((fun i=>V.str ((x::r).getD i ""))∘Nat.succ)=fun i=>V.str (r.getD i ""):=by funext i;simp
  cases p x with
  |true=>simp only[if_true,List.map_cons,List.map_map];rw[e,c,b];rfl
  |false=>simp only[Bool.false_eq_true,if_false,List.map_map];rw[e,c,b]
theorem Rk {b:Type} {ps:List b} {f:b->Bool}:∀{vs:List V},vs.length=ps.length->(∀(i:Nat) v,vs[i]?=some v->∃p,ps[i]?=some p/\v=.bl (f p))->vs=(ps.map f).map V.bl:=by
 intro vs l h
 refine List.ext_getElem (by simp[l]) fun i c g=>?_
 obtain⟨p,a,d⟩:=h i _ (ADr c)
 have e:i<ps.length:=by lia
 rw[ADr e]at a
 have a:=ADt a
 rw[d,<-a]
 simp
theorem LW (p:Str->Bool):∀l:List Str,l.length=(l.filter fun x=> !p x).length+(l.filter p).length
 |[]=>rfl
 |x::r=>by
  have:=LW p r
  cases h:p x<;>simp[List.filter_cons,h]<;>lia
theorem cntK {ks a:List Str} (nk:ks.Nodup) (b:a.Nodup):a.length=(a.filter fun n=> !decide (n∈ks)).length+(ks.filter fun k=>decide (k∈a)).length:=by
 have c:(a.filter fun n=>decide (n∈ks)).Perm (ks.filter fun k=>decide (k∈a)):=by
  refine(List.perm_ext_iff_of_nodup (b.sublist List.filter_sublist) (nk.sublist List.filter_sublist)).mpr fun x=>?_
  simp only[List.mem_filter,decide_eq_true_eq]
  exact And.comm
 have:=LW (fun n=>decide (n∈ks)) a
 have e:=c.length_eq
 lia
theorem OU {ks a:List Str}:ks.all (fun k=>decide (k∈a))=decide ((ks.filter fun k=>decide (k∈a)).length=ks.length):=by
 rw[Bool.eq_iff_iff,decide_eq_true_iff,List.length_filter_eq_length_iff,List.all_eq_true]
theorem Vx {ks b ls:List Str} (m:Bool) (nk:ks.Nodup) (j:b.Nodup) (dj:∀l∈ls,l∉ks):
  (ks.all (fun k=>decide (k∈b))&& !(ls.any fun k=>decide (k∈b))&&Ak.cnt b.length ks.length m)=
  (!(decide (((b.length:Nat):Int)-(((b.filter fun n=> !decide (n∈ks)).length:Nat):Int)<((ks.length:Nat):Int)))&&(m||(b.filter fun n=> !decide (n∈ks)).isEmpty)&&((b.filter fun n=> !decide (n∈ks)).filter fun n=>decide (n∈ls)).isEmpty):=by
 have c:=cntK nk j
 have s:(ks.filter fun k=>decide (k∈b)).length<=ks.length:=List.length_filter_le _ _
 rw[OU]
 by_cases h:(ks.filter fun k=>decide (k∈b)).length=ks.length
 ·have f:¬((b.length:Nat):Int)-(((b.filter fun n=> !decide (n∈ks)).length:Nat):Int)<((ks.length:Nat):Int):=by lia
  rw[decide_eq_true h,decide_eq_false f,Bool.true_and,Bool.not_false,Bool.true_and]
  have o:Ak.cnt b.length ks.length m=(m||(b.filter fun n=> !decide (n∈ks)).isEmpty):=by
   cases i:(b.filter fun n=> !decide (n∈ks))with
   |nil=>
    rw[i,List.length_nil]at c
    have:b.length=ks.length:=by lia
    simp[Ak.cnt,this]
   |cons a r=>
    rw[i,List.length_cons]at c
    have:ks.length<b.length:=by lia
    have e:(b.length==ks.length)=false:=by simp;lia
    simp[Ak.cnt,this,e]
  have p:(!(ls.any fun k=>decide (k∈b)))=((b.filter fun n=> !decide (n∈ks)).filter fun n=>decide (n∈ls)).isEmpty:=by
   rw[Bool.eq_iff_iff,List.isEmpty_iff,List.filter_eq_nil_iff,Bool.not_eq_true',<-Bool.not_eq_true,List.any_eq_true]
   constructor
   ·intro h a q d
    exact h ⟨a,of_decide_eq_true d,decide_eq_true (List.mem_filter.mp q).1⟩
   ·intro h ⟨l,d,g⟩
    have g:=of_decide_eq_true g
    exact h l (List.mem_filter.mpr ⟨g,by simpa using dj l d⟩) (decide_eq_true d)
  rw[o,p,Bool.and_comm]
 ·have f:((b.length:Nat):Int)-(((b.filter fun n=> !decide (n∈ks)).length:Nat):Int)<((ks.length:Nat):Int):=by lia
  rw[decide_eq_false h,decide_eq_true f]
  simp
end
section
variable{X:Cx}
theorem Gd {ss:List Str}:∀{us:List Value},Vals (ss.map V.str) us->StrsAre us ss:=by
 induction ss with
 |nil=>intro us h;cases h;exact .nil
 |cons x r a=>
  intro us h
  cases h with
  |cons b c=>
   obtain⟨t,rfl⟩:=b
   exact .cons x t (a c)
inductive Qa (K:ADv) (xs:List V) (H:Hp) (Q:VK):Prop
 |mk (d:Addr) (ss:List Str) (c:xs=[.ref d]) (e:Ap K H d (ss.map V.str)) (f:ss.length<64) (g:∀(p:Addr) (a:List Str) (b:Hp),H p=none->AG H b->b p=some (.lst (a.map V.str))->a.Perm ss->sortedS a=true->Q (.ref p) b):Qa K xs H Q
theorem Mi (R:X.calm=true):BD X (.builtin "sorted") (Qa X.K):=by
 intro pins s S H T U Q I r h
 obtain⟨d,y,rfl,J,n,q⟩:=h
 obtain⟨u,rfl,L⟩:=vals1 r
 cases L
 obtain⟨a,z,pl,l⟩:=I.list J
 obtain⟨W,p,j,Y,k⟩:=id pl.isList
 have A:a.length=y.length:=by rw[<-z.length,List.length_map]
 have l:a.length<=sizeLine:=Nat.le_of_lt (BV (by lia))
 have t:StrsAre a y:=Gd z
 refine Calls.call_function_entry kind_sorted plain_sorted entry_sorted (args_sorted1 _) ?_
 unfold Builtin.«sorted»
 refine wpAny_bind (m:=checkCount "sorted" 1 1 _) (wpAny_pure (wpAny_bind (wpAny_collect_seq d (.inl rfl) p j k (fun c keep=>?_) (by rw[List.size_toArray];exact l))))
 rw[List.toList_toArray]
 refine wpAny_bind (wpAny_newList ?_ l)
 have f:(c.push {cls:=.type "list",data:=.seq a.toArray}).get? c.objs.size=some (seqObj "list" a.toArray 0):=Heap.get?_push_size _ rfl
 refine wpAny_bind (wpAny_holding (wpAny_call_entry slot_list_sort ⟨_,f,rfl⟩ entry_list_sort (list_sort_treeK strKind_oneLt f t.keysOf (fun B C rest e=>keyKind_strs (by rw[<-e];exact t)) (by rw[A];exact n) fun g a1 a2=>⟨_,rfl,?_⟩) (args_list_sort _)))
 obtain⟨i,M,D,N⟩:=sorted_out_str t a1 a2
 obtain⟨O,P⟩:=sortedHeap_at (out:=(arrOf g).map (·.2)) f
 refine wpAny_pure ⟨_,rfl,?_⟩
 have v:(c.push {cls:=.type "list",data:=.seq a.toArray}).objs.size=c.objs.size+1:=size_push' ..
 have E:=I.kept (t':=s.toks) keep
 have k2:∀b o,c.get? b=some o->(sortedHeap (c.push {cls:=.type "list",data:=.seq a.toArray}) c.objs.size a ((arrOf g).map (·.2))).get? b=some o:=fun b o e=>by
  have F:b<c.objs.size:=Heap.lt_size e
  rw[sortedHeap_old (Nat.ne_of_lt F) (by rw[v];exact Nat.lt_succ_of_lt F)]
  exact Heap.get?_push_of_some _ e
 have x:i.length<=sizeLine:=by
  rw[D.length_eq,<-A]
  exact l
 have new:Au X.prog X.w (upd H c.objs.size (.lst (i.map V.str))) (sortedHeap (c.push {cls:=.type "list",data:=.seq a.toArray}) c.objs.size a ((arrOf g).map (·.2))) c.objs.size (.lst (i.map V.str)):=
  ⟨by rw[List.length_map];exact x,((arrOf g).map (·.2)).toList,O,HS M,by rw[Array.toArray_toList];exact P⟩
 have G:H c.objs.size=none:=E.fresh
 exact⟨.ref c.objs.size,_,E.laid (t':=s.toks) k2 (Nat.le_refl _) new,rfl,q _ i _ G (AG.new G) AE D N⟩
inductive cE (xs:List V) (H:Hp) (Q:VK):Prop
 |mk (d:Addr) (a:List (Key×V)) (ss:List Str) (b:xs=[.ref d]) (c:Rd H d (.dK a)) (e:a.map (·.1)=ss.map Sum.inr) (f:∀(p:Addr),H p=none->Q (.ref p) (upd H p (.lst (ss.map V.str)))):cE xs H Q
end
section
variable{K:ADv} [Ar K]
namespace Ak
theorem EY (a b:List Ak):Fh (a++b)=Fh a++Fh b:=by simp[BH]
theorem Am (a b:List Ak):AJ (a++b)=AJ a+AJ b:=by
 induction a with
 |nil=>simp[AJ]
 |cons x r c=>simp only[List.cons_append,AJ,c];lia
theorem Bm (a b:List Ak):AV (a++b)=max (AV a) (AV b):=by
 induction a with
 |nil=>simp[AV]
 |cons x r c=>simp only[List.cons_append,AV,c];lia
theorem EZ {a b:List Ak} (h:HU a) (g:HU b):HU (a++b):=Vw fun x c=>(List.mem_append.mp c).elim (GZ h x) (GZ g x)
theorem FV (a:Ak):AJ [a]=a.size:=by simp[AJ]
theorem FW (a:Ak):AV [a]=a.deep:=by simp[AV]
theorem Il {a:Ak} (h:a.ok):HU [a]:=⟨h,trivial⟩
end Ak
theorem Qb {ks:List Str} {ws:List V} (l:ks.length=ws.length) (y:Str) (v:V):EH (ks++[y]) (ws++[v])=EH ks ws++[(Sum.inr y,v)]:=by
 unfold EH
 rw[List.zip_append l,List.map_append]
 rfl
theorem Rm {ks:List Str} {ws:List V} (l:ks.length=ws.length) {y:Str} (h:y∉ks) (v:V):putK (EH ks ws) (Sum.inr y) v=EH (ks++[y]) (ws++[v]):=by
 rw[Qb l,Nj]
 have:=OT (CT l) y
 rw[decide_eq_false h]at this
 cases e:CF (EH ks ws) (Sum.inr y:Key)with
 |none=>rfl
 |some z=>rw[e]at this;cases this
structure Fi (H H4:Hp) (l p6 p7:Addr) (ys:List Str) (d N:Nat) (i:Nat) (Hi:Hp) (ks:List Str) (as:List Ak) (ls:List Str) (Pf:List Int) (ws:List V):Prop where
 n6:H p6=none
 n7:H p7=none
 o6:H4 p6≠none
 o7:H4 p7≠none
 ne:p6≠p7
 hl:H l≠none
 h4:∀b,H4 b=none->H b=none
 bt:Bt (some l) H Hi
 dm:∀b,Hi b=none->H4 b=none
 e6:Hi p6=some (.dK (EH ks ws))
 e7:Hi p7=some (.lst (ls.map V.str))
 el:Hi l=some (.lst (Pf.map V.int))
 le:Pf.length<=N
 lw:ks.length=ws.length
 la:ks.length=as.length
 vl:Aa (nw H4 Hi) ws (Ak.Fh as)
 ok:Ak.HU as
 sz:Ak.AJ as<=i+4*(N-Pf.length)
 dp:Ak.AV as<=d
 ik:∀k∈ks,∃j,j<i/\ys[j]?=some k
 il:∀k∈ls,∃j,j<i/\ys[j]?=some k
 nk:ks.Nodup
 dj:∀x∈ls,x∉ks
 l4:ks.length<=i
 m4:ls.length<=i
 nl:ls.Nodup
section
variable{H H4:Hp} {l p6 p7:Addr} {ys:List Str} {d N:Nat} {i:Nat} {Hi:Hp} {ks:List Str} {as:List Ak} {ls:List Str} {Pf:List Int} {ws:List V}
theorem Fi.up {a:Hp} (t:Fi H H4 l p6 p7 ys d N i Hi ks as ls Pf ws) (s:AG Hi a):Fi H H4 l p6 p7 ys d N i a ks as ls Pf ws:=
 {t with bt:=t.bt.trans (.of s),dm:=fun b h=>t.dm b (s.free h),e6:=s _ _ t.e6,e7:=s _ _ t.e7,el:=s _ _ t.el,vl:=t.vl.up (BX (fun b h=>h) fun b e _ h=>s _ _ h)}
theorem Fi.weak (t:Fi H H4 l p6 p7 ys d N i Hi ks as ls Pf ws):Fi H H4 l p6 p7 ys d N (i+1) Hi ks as ls Pf ws:=
 {t with sz:=by have:=t.sz;lia,ik:=fun k a=>let⟨j,c,b⟩:=t.ik k a;⟨j,by lia,b⟩,il:=fun k a=>let⟨j,c,b⟩:=t.il k a;⟨j,by lia,b⟩,l4:=by have:=t.l4;lia,m4:=by have:=t.m4;lia}
theorem Fi.fresh (t:Fi H H4 l p6 p7 ys d N i Hi ks as ls Pf ws) {y:Str} (c:ys[i]?=some y) (nd:ys.Nodup):y∉ks/\y∉ls:=by
 have e:=(ADs c).1
 have inj:∀j,j<i->ys[j]?=some y->False:=fun j b a=>by
  rw[<-c]at a
  have:=(List.getElem?_inj (by lia) nd).mp a
  lia
 exact⟨fun h=>let⟨j,b,a⟩:=t.ik y h;inj j b a,fun h=>let⟨j,b,a⟩:=t.il y h;inj j b a⟩
theorem Fi.mK (t:Fi H H4 l p6 p7 ys d N i Hi ks as ls Pf ws) {y:Str} (c:ys[i]?=some y) (nd:ys.Nodup):Fi H H4 l p6 p7 ys d N (i+1) (upd Hi p7 (.lst (ls.map V.str++[.str y]))) ks as (ls++[y]) Pf ws:=by
 have f:=t.fresh c nd
 have l7:l≠p7:=fun z=>t.hl (by rw[z];exact t.n7)
 exact{t.weak with
  bt:=t.bt.new t.n7
  dm:=fun b h=>t.dm b (Cm h).2
  e6:=by rw[AK t.ne];exact t.e6
  e7:=by rw[AE,List.map_append];rfl
  el:=by rw[AK l7];exact t.el
  vl:=t.vl.up (BX (fun b h=>h) fun b e g j=>by rw[AK (fun z=>t.o7 (by rw[<-z];exact g))];exact j)
  il:=fun k m=>(List.mem_append.mp m).elim (fun h=>t.weak.il k h) fun h=>⟨i,by lia,by rw[List.mem_singleton.mp h];exact c⟩
  dj:=fun x n=>(List.mem_append.mp n).elim (fun h=>t.dj x h) fun h=>by rw[List.mem_singleton.mp h];exact f.1
  m4:=by have:=t.m4;simp;lia
  nl:=List.nodup_append.mpr ⟨t.nl,by simp,fun a o b p z=>f.2 (by rw[<-List.mem_singleton.mp p,<-z];exact o)⟩}
theorem Fi.asked {g:Hp} {v:V} {a:Ak} {c:List Int} (t:Fi H H4 l p6 p7 ys d N i Hi ks as ls Pf ws) {y:Str} (p:ys[i]?=some y) (nd:ys.Nodup) (bt:Bt (some l) Hi g) (el:g l=some (.lst (c.map V.int))) (le:c.length<=Pf.length) (r:Val (nw Hi g) v a.pt) (ok:a.ok) (sz:a.size<=1+4*(Pf.length-c.length)) (dp:a.deep<=d):
  g p6=some (.dK (EH ks ws))/\putK (EH ks ws) (Sum.inr y) v=EH (ks++[y]) (ws++[v])/\Fi H H4 l p6 p7 ys d N (i+1) (upd g p6 (.dK (EH (ks++[y]) (ws++[v])))) (ks++[y]) (as++[a]) ls c (ws++[v]):=by
 have f:=t.fresh p nd
 have l6:l≠p6:=fun z=>t.hl (by rw[z];exact t.n6)
 have l7:l≠p7:=fun z=>t.hl (by rw[z];exact t.n7)
 have e6:=bt.keep _ _ (fun z=>l6 (ADt z)) t.e6
 have e7:=bt.keep _ _ (fun z=>l7 (ADt z)) t.e7
 refine⟨e6,Rm t.lw f.1 v,{t.weak with
  bt:=(t.bt.trans bt).new t.n6
  dm:=fun b h=>t.dm b (bt.FQ b (Cm h).2)
  e6:=AE
  e7:=by rw[AK (Ne.symm t.ne)];exact e7
  el:=by rw[AK l6];exact el
  le:=Nat.le_trans le t.le
  lw:=by have:=t.lw;simp[this]
  la:=by have:=t.la;simp[this]
  vl:=?_
  ok:=Ak.EZ t.ok (Ak.Il ok)
  sz:=by
   rw[Ak.Am,Ak.FV]
   have:=t.sz
   have:=t.le
   lia
  dp:=by rw[Ak.Bm,Ak.FW];have:=t.dp;lia
  ik:=fun k s=>(List.mem_append.mp s).elim (fun h=>t.weak.ik k h) fun h=>⟨i,by lia,by rw[List.mem_singleton.mp h];exact p⟩
  nk:=by
   rw[List.nodup_append]
   refine⟨t.nk,by simp,fun a q b j z=>?_⟩
   rw[List.mem_singleton.mp j]at z
   rw[z]at q
   exact f.1 q
  dj:=fun x n h=>(List.mem_append.mp h).elim (fun h=>t.dj x n h) fun h=>by
   rw[List.mem_singleton.mp h]at n
   exact f.2 n
  l4:=by have:=t.l4;simp;lia}⟩
 rw[Ak.EY]
 refine(t.vl.up (BX (fun b h=>h) fun b e m o=>?_)).snoc (r.up (BX (fun b h=>t.dm b h) fun b e m o=>?_))
 ·have j:b≠p6:=fun z=>t.o6 (by rw[<-z];exact m)
  rw[AK j]
  exact bt.keep b e (fun z=>t.hl (by rw[ADt z];exact t.h4 b m)) o
 ·have j:b≠p6:=fun z=>by rw[z,t.e6]at m;cases m
  rw[AK j]
  exact o
end
theorem TY.Jh:∀{xs:List Pt},(∀x∈xs,TY x)->Pt.AV xs<=1
 |[],_=>by simp[Pt.AV]
 |x::r,h=>by
  have a:=h x List.mem_cons_self
  have c:=TY.Jh (xs:=r) fun y b=>h y (List.mem_cons_of_mem _ b)
  have:x.deep<=1:=by cases a<;>simp[Pt.deep,Pt.AV]
  simp only[Pt.AV];lia
theorem Sm.YT {d:Pt} (h:Sm d):d.deep<=2:=by
 cases h with
 |one h=>cases h<;>simp[Pt.deep,Pt.AV]
 |row h=>have:=TY.Jh h;simp only[Pt.deep];lia
 |tab h=>have:=TY.Jh h;simp only[Pt.deep];lia
theorem Pt.FC {a b:List Pt} (h:Pt.CH a) (g:Pt.CH b):Pt.CH (a++b):=Pt.Ik fun x c=>(List.mem_append.mp c).elim (Pt.Ba h x) (Pt.Ba g x)
theorem Pt.Bm (a b:List Pt):Pt.AV (a++b)=max (Pt.AV a) (Pt.AV b):=by
 induction a with
 |nil=>simp[Pt.AV]
 |cons x r c=>simp only[List.cons_append,Pt.AV,c];lia
def Dl (us:List Pt):Prop:=∀u∈us,u.doc/\u.size<=4/\u.deep<=2
theorem Dl.size:∀{us:List Pt},Dl us->Pt.AJ us<=4*us.length
 |[],_=>by simp[Pt.AJ]
 |x::r,h=>by
  have b:=h x List.mem_cons_self
  have c:=Dl.size (us:=r) fun y a=>h y (List.mem_cons_of_mem _ a)
  simp only[Pt.AJ,List.length_cons];lia
theorem Dl.deep:∀{us:List Pt},Dl us->Pt.AV us<=2
 |[],_=>by simp[Pt.AV]
 |x::r,h=>by
  have b:=h x List.mem_cons_self
  have c:=Dl.deep (us:=r) fun y a=>h y (List.mem_cons_of_mem _ a)
  simp only[Pt.AV];lia
theorem Dl.mL {us:List Pt} (h:Dl us):Pt.CH us:=Pt.Ik fun x a=>(h x a).1
theorem gF {v:V} {i:Nat} {u:TS} {D:Ends} {σ:St} {H:Hp} (h:u D (σ.set i (some v)) H):Pp (aw (tC v) (Eo i)) u D σ H:=h
theorem Rn {a:Type} {y k:Str} {t:a} (n:k≠y):∀{ks:List Str} {us:List a},ks.length=us.length->lk (ks++[y]) (us++[t]) k=lk ks us k
 |[],[],_=>by rw[List.nil_append,List.nil_append,Bn,if_neg n]
 |[],_::_,l=>by simp at l
 |_::_,[],l=>by simp at l
 |x::ks,u::us,l=>by rw[List.cons_append,List.cons_append,Bn,Bn,Rn n (by simpa using l)]
theorem OV {G:Hp} {y:Str} {v:V} {t:Pt} (g:Val G v t):∀{ks:List Str} {ws:List V} {us:List Pt},ks.length=ws.length->ks.Nodup->Aa G ws us->∃(b:List V) (a:List Pt),(EH ks ws).map (fun e=>if e.1=(Sum.inr y:Key)then(e.1,v)else e)=EH ks b/\ks.length=b.length/\Aa G b a/\(∀u∈a,u∈us∨u=t)/\Pt.AJ a<=Pt.AJ us+(if y∈ks then t.size else 0)/\(∀k,k≠y->lk ks a k=lk ks us k)
 |[],[],_,_,_,.nil=>⟨[],[],rfl,rfl,.nil,(fun u h=>nomatch h),by simp,fun _ _=>rfl⟩
 |[],_::_,_,l,_,_=>by simp at l
 |_::_,[],_,l,_,_=>by simp at l
 |k::ks,w::ws,_,l,nd,.cons (t:=u) (ts:=us) h r=>by
  obtain⟨q,s⟩:=List.nodup_cons.mp nd
  obtain⟨b,a,i,j,m,n,A,o⟩:=OV (y:=y) g (ks:=ks) (ws:=ws) (by simpa using l) s r
  have p:EH (k::ks) (w::ws)=(Sum.inr k,w)::EH ks ws:=rfl
  by_cases f:k=y
  ·subst f
   refine⟨v::b,t::a,?_,by simp[j],.cons g m,fun x c=>?_,?_,fun z d=>by rw[Bn,Bn,if_neg d,if_neg d];exact o z d⟩
   ·rw[p,List.map_cons,i,if_pos rfl];rfl
   ·rcases List.mem_cons.mp c with rfl|c
    ·exact .inr rfl
    ·exact(n x c).imp (List.mem_cons_of_mem _) id
   ·rw[if_neg q]at A
    rw[if_pos List.mem_cons_self]
    simp only[Pt.AJ];lia
  ·refine⟨w::b,u::a,?_,by simp[j],.cons h m,fun x c=>?_,?_,fun z d=>by rw[Bn,Bn,o z d]⟩
   ·rw[p,List.map_cons,i,if_neg (fun z=>f (Sum.inr.inj z))];rfl
   ·rcases List.mem_cons.mp c with rfl|c
    ·exact .inl List.mem_cons_self
    ·exact(n x c).imp (List.mem_cons_of_mem _) id
   ·have:(y∈k::ks)↔y∈ks:=by
     constructor
     ·intro h;exact(List.mem_cons.mp h).resolve_left (fun z=>f z.symm)
     ·exact List.mem_cons_of_mem _
    simp only[this,Pt.AJ];lia
theorem YU {G:Hp} {y:Str} {v:V} {t:Pt} (i:Val G v t) {ks:List Str} {ws:List V} {us:List Pt} (l:ks.length=ws.length) (nd:ks.Nodup) (h:Aa G ws us):∃(c:List Str) (e:List V) (d:List Pt),putK (EH ks ws) (Sum.inr y) v=EH c e/\c.length=e.length/\c.Nodup/\Aa G e d/\(∀k∈c,k∈ks∨k=y)/\(∀u∈d,u∈us∨u=t)/\Pt.AJ d<=Pt.AJ us+t.size/\c.length<=ks.length+1/\(∀k∈ks,k∈c)/\ks.length<=c.length/\(∀k,k≠y->lk c d k=lk ks us k):=by
 by_cases g:y∈ks
 ·obtain⟨e,d,n,o,p,q,j,r⟩:=OV i (y:=y) l nd h
  refine⟨ks,e,d,?_,o,nd,p,fun k f=>.inl f,q,by rw[if_pos g]at j;exact j,by lia,fun k f=>f,Nat.le_refl _,r⟩
  unfold putK
  rw[if_pos,n]
  rw[DG,OT (CT l)]
  exact decide_eq_true g
 ·refine⟨ks++[y],ws++[v],us++[t],Rm l g v,by simp[l],?_,h.snoc i,fun k f=>?_,fun u s=>?_,?_,by simp,fun k f=>List.mem_append_left _ f,by simp,fun k f=>Rn f (by rw[l,h.length])⟩
  ·rw[List.nodup_append]
   refine⟨nd,by simp,fun a m b w z=>?_⟩
   rw[List.mem_singleton.mp w]at z
   rw[z]at m
   exact g m
  ·exact(List.mem_append.mp f).imp id List.mem_singleton.mp
  ·exact(List.mem_append.mp s).imp id List.mem_singleton.mp
  ·rw[Pt.Am];simp only[Pt.AJ];lia
theorem OW {n:Nat}:∀{us:List Pt},(∀u∈us,u.deep<=n)->Pt.AV us<=n
 |[],_=>by simp[Pt.AV]
 |x::r,h=>by
  have b:=h x List.mem_cons_self
  have c:=OW (us:=r) fun y a=>h y (List.mem_cons_of_mem _ a)
  simp only[Pt.AV];lia
end
section
variable{K:ADv} [Ar K]
section
variable{X:Cx}
inductive gH (x:V) (y:V) (H:Hp) (Q:VK):Prop
 |mk (l b:Addr) (xs zs:List V) (a:x=.ref l) (c:y=.ref b) (d:Rd H l (.lst xs)) (e:Rd H b (.lst zs)) (f:xs.length+zs.length<=sizeLine) (g:∀p,H p=none->Q (.ref p) (upd H p (.lst (xs++zs)))):gH x y H Q
end
end
section
variable{K:ADv} [Ar K]
theorem Bt.over {a c H2:Hp} {D:Addr} (s:AG a c) (d:a D=none) (bt:Bt (some D) c H2):AG a H2:=fun b o e=>bt.keep b o (fun z=>by rw[<-ADt z,d]at e;cases e) (s _ _ e)
theorem OX {a c:Hp} {D:Addr} (s:AG a c) (d:a D=none):AG a (Dk D c):=fun b o e=>by
 rw[DM (fun z=>by rw[z,d]at e;cases e)]
 exact s _ _ e
theorem ints_of:∀{vs:List V},(∀(i:Nat) v,vs[i]?=some v->∃z:Int,v=.int z)->∃cs:List Int,vs=cs.map V.int
 |[],_=>⟨[],rfl⟩
 |v::r,h=>by
  obtain⟨z,rfl⟩:=h 0 v rfl
  obtain⟨cs,rfl⟩:=ints_of (vs:=r) fun i v a=>h (i+1) v (by simpa using a)
  exact⟨z::cs,rfl⟩
structure ve (H5 Hi:Hp) (p5:Addr) (ws:List V) (us:List Pt):Prop where
 s:AG H5 Hi
 n5:H5 p5=none
 f:Hi p5=some (.lst ws)
 v:Aa (Dk p5 Hi) ws us
end
end L2
namespace PySem
open PyProof.Rows PySem.F PySem.Spec
theorem Kq:typeLookup (.type "zip") "keys"=pure none:=by rw[typeLookup_type,builtinLookup_eq_fast];kernel_rfl
theorem Hq:typeLookup (.type "zip") "__getattr__"=pure none:=by rw[typeLookup_type,builtinLookup_eq_fast];kernel_rfl
theorem Ea:entryFor table "zip.__getattribute__"=some Builtin.«object.__getattribute__»:=
 entryFor_alias (id':="object.__getattribute__") (by kernel_rfl) (by decide+kernel) (by decide+kernel) (by kernel_rfl)
theorem Vy (a:Addr) (fs:Array Value) (name:Str) (u:Tok) (e:typeLookup (.type "zip") name=pure none) (b:(["__module__","__name__","__qualname__","__doc__","__annotations__"]:List Str).contains name=false) (hsz:name.length+100<=sizeLine:=by size_fits):
  Meets (Builtin.«object.__getattribute__» ⟨[.ref a,.str name u],[]⟩) (fun A R s=>s.heap.get? a=some {cls:=.type "zip",dict:=none,data:=.fields fs,slots:= #[]}/\raisesAttr (.ref a) name A R s):=
 Meets.of_wp fun prog w A R s c=>by
  obtain⟨f,g,d,h,os⟩:=s
  obtain⟨i,c⟩:=c
  have j:(⟨f,g,d,h,os⟩:Shared).TypeIs (.ref a) "zip":=⟨_,i,rfl⟩
  unfold Builtin.«object.__getattribute__»
  repeat (any_goals (first|assumption|wp_step))
  simp only[b,Bool.false_eq_true,if_false]
  repeat (any_goals (first|assumption|wp_step))
  exact wpAny_raiseAttrError c.1 c.2 (attrMsg_fits (by decide+kernel) hsz)
theorem Kr {prog:Program} {w:World} {A:Around} {E:Value->Shared->Prop} {s:Shared} {a:Addr} {fs:Array Value} {Q:Option Value->Shared->Prop}
  (i:s.heap.get? a=some {cls:=.type "zip",dict:=none,data:=.fields fs,slots:= #[]}) (hA:A.handled=none)
  (h:∀f j e,Heap.NewExcOf s.heap f e "AttributeError"->Q none {s with heap:=f,toks:=j}):
  wpAny (model prog w) A (getAttr? (.ref a) "keys") Q E s:=by
 obtain⟨l,g,d,j,os⟩:=s
 have k:∀b,(⟨l,g,d,b,os⟩:Shared).TypeIs (.ref a) "zip":=fun _=>⟨_,i,rfl⟩
 have m:=sub_AttributeError
 have n:=F.slot_zip_getattribute.lookup
 have o:=F.slot_zip_getattribute.bind (.ref a)
 have p:=Hq
 unfold getAttr? getAttrBy? getAttrBy
 repeat (any_goals (first|assumption|exact k _|((with_reducible show wpAny _ _ (call (Value.builtin "zip.__getattribute__") _ _) _ _ _);refine call_meets F.slot_zip_getattribute (k _) Ea (F.args_zip_getattribute_2 _ _) (Vy a fs "keys" _ Kq (by decide+kernel)) ⟨i,hA,fun f b e c=>?_⟩)|wp_step))
 obtain⟨q,r,t⟩:=c.there
 show wpAny _ _ (getattributeRaised _ _ _ _ _ _ _) _ _ _
 unfold getattributeRaised
 repeat (any_goals (first|assumption|wp_step))
 exact h _ _ _ c.of
end PySem
namespace L2
open PySem PySem.Spec PyProof.Rows
section
variable{prog:Program} {w:World} {K:Type} [DecidableEq K] {knd:KeyKind prog w K} {A:Around} {R:Result->Shared->Prop}
theorem Tb {d z TI TO t u l1 l2:Addr} {xs ys:Array Value} {more:List (K×Value)} (Q:A.handled=none) (D:ZipApart z TI TO t u l1 l2) (c:z≠d/\TI≠d/\TO≠d/\t≠d/\u≠d/\l1≠d/\l2≠d) (hl:xs.size=more.length) (hsz:more.length<=100000)
  (S:∀(j:Nat) l f,more[j]?=some (l,f)->∃a,xs[j]?=some a/\ys[j]?=some f/\knd.is l a=true):
  ∀(k i:Nat) (s:Shared),more.length-i=k->i<=more.length->cA s.heap z TI TO t u l1 l2 d i xs ys->s.heap.DictOf knd d (merged [] (more.take i))->
   (∀h' tk,h'.DictOf knd d (merged [] more)->(∀b o,b≠d->b≠z->b≠TO->b≠t->b≠u->s.heap.get? b=some o->h'.get? b=some o)->R (.ok (.ret .none)) {s with heap:=h',toks:=tk})->
   codeAny (model prog w) A (.builtin "dict.update.loop" ⟨[.ref d,.ref z,rawInt (i:Int),.none],[]⟩) R s:=by
 intro k
 induction k with
 |zero=>
  intro i s T U st v y
  have B:i=more.length:=by lia
  subst B
  refine codeAny_builtin CL ?_
  rw[Around.under_plainId BP _]
  show wpAny _ A.in1 (pyNext (.ref z)>>=_) _ _ s
  refine wpAny_bind (Vq (A:=A.in1) Q D st (by simp[<-hl]) fun h' kept=>?_)
  rw[List.take_length]at v
  obtain⟨o,C,E,x,r⟩:=v
  show wpAny _ A.in1 (Builtin.Dict.addKeywords d []>>=_) _ _ _
  exact wpAny_bind (wpAny_pure (wpAny_pure (y h' s.toks ⟨o,C,E,kept _ _ c.1.symm c.2.2.1.symm c.2.2.2.1.symm c.2.2.2.2.1.symm x,r⟩ fun b o _ c1 c2 c3 c4 e=>kept b o c1 c2 c3 c4 e)))
 |succ k V=>
  intro i s T U st v y
  have m:i<more.length:=by lia
  obtain⟨⟨l,f⟩,N⟩:∃p,more[i]?=some p:=⟨_,ADr m⟩
  obtain⟨a,W,X,g⟩:=S i l f N
  obtain⟨o,C,E,x,r⟩:=id v
  have F:d<s.heap.objs.size:=Heap.lt_size x
  refine codeAny_builtin CL ?_
  rw[Around.under_plainId BP _]
  show wpAny _ A.in1 (pyNext (.ref z)>>=_) _ _ s
  refine wpAny_bind (Vp (A:=A.in1) D st F W X fun h' G h O kept=>?_)
  have Y:({s with heap:=h'}:Shared).TypeIs (.ref s.heap.objs.size) "tuple":=⟨_,h,rfl⟩
  have H:h'.DictOf knd d (merged [] (more.take i)):=⟨o,C,E,kept _ _ c.1.symm c.2.2.1.symm c.2.2.2.1.symm c.2.2.2.2.1.symm x,r⟩
  have I:(merged [] (more.take i)).length<=sizeLine:=by
   have:=merged_length_le ([]:List (K×Value)) (more.take i)
   rw[List.length_take,List.length_nil]at this
   have e:sizeLine=16777216:=sizeLine_eq
   lia
  show wpAny _ A.in1 (holding [Value.ref s.heap.objs.size] _>>=_) _ _ _
  refine wpAny_bind (wpAny_holding (wpAny_bind (wpAny_tryCatch ?_)))
  unfold Builtin.Dict.pairItems
  refine wpAny_bind (wpAny_typeOf Y ?_)
  rw[if_pos (by decide)]
  unfold seqItems?
  refine wpAny_bind ?_
  refine wpAny_bind (wpAny_load h ?_)
  refine wpAny_pure (wpAny_pure ?_)
  show wpAny _ A.in1 (holding [a,f] (dictSet d a f)) _ _ _
  refine wpAny_holding ?_
  unfold dictSet
  try with_reducible refine wpAny_holding ?_
  refine wpAny_bind (knd.pyHash g ?_)
  refine wpAny_dictSetHashed_pairs (hsz:=I) g H fun h2 n q=>?_
  have Z:stored (merged [] (more.take i)) l f=merged [] (more.take (i+1)):=(merged_take_succ [] more i (l,f) N).symm
  rw[Z]at n
  have ic:((i:Int)+1)=((i+1:Nat):Int):=by simp
  refine wpAny_pure ⟨plainId_quiet BP _,?_⟩
  rw[ic]
  refine V (i+1) _ (by lia) m (G.keep (fun b o hb e=>by rw[q.2 b hb];exact e) c) n fun h3 J L M=>y h3 J L fun b o P c1 c2 c3 c4 e=>M b o P c1 c2 c3 c4 (by rw[q.2 b P];exact kept b o c1 c2 c3 c4 e)
end
section
variable{X:Cx} {pins:List (Addr×Obj)} {σ:St} {H:Hp} {s:Shared}
def dq (ks:List Str) (ys:List V):List (Key×V):=(ks.zip ys).map fun p=>(Sum.inr p.1,p.2)
inductive jc (K:ADv) (x y:V) (H:Hp) (Q:VK):Prop
 |mk (a b:Addr) (ks:List Str) (ys:List V) (c:x=.ref a) (d:y=.ref b) (e:Ap K H a (ks.map V.str)) (f:Ap K H b ys) (hl:ks.length=ys.length) (hz:ks.length<=1000) (q:∀p,H p=none->Q (.ref p) (upd H p (.dK (CG [] (dq ks ys))))):jc K x y H Q
def zB (K:ADv) (a b:TE):TE:=fun σ H Q=>a σ H fun x c=>b σ c fun y d=>jc K x y d Q
def zC (K:ADv) (Q:VK):List V->Hp->Prop
 |[x,y],H=>jc K x y H Q
 |_,_=>False
theorem OY:∀{ks:List Str} {ys:List V} {its a:List Value},ks.length=ys.length->Vals (ks.map V.str) its->Vals ys a->∃more:List (Key×Value),KV (dq ks ys) more/\more.length=ks.length/\∀(j:Nat) d f,more[j]?=some (d,f)->∃c,its[j]?=some c/\a[j]?=some f/\(An X.prog X.w).is d c=true
 |[],[],_,_,_,_,_=>⟨[],.nil,rfl,fun j d f e=>by simp at e⟩
 |[],_::_,_,_,h,_,_=>by simp at h
 |_::_,[],_,_,h,_,_=>by simp at h
 |k::ks,y::ys,_,_,h,.cons (b:=u) (l₂:=its) i r,.cons (b:=g) (l₂:=a) l m=>by
  obtain⟨more,n,o,p⟩:=OY (by simpa using h) r m
  refine⟨(Sum.inr k,g)::more,.cons ⟨rfl,l⟩ n,by simp[o],fun j d f e=>?_⟩
  cases j with
  |zero=>
   have e:(Sum.inr k,g)=(d,f):=by simpa using e
   cases e
   exact⟨u,rfl,rfl,GL (k:=Sum.inr k) i⟩
  |succ j=>
   obtain⟨c,c1,c2,c3⟩:=p j d f (by simpa using e)
   exact⟨c,by simpa using c1,by simpa using c2,c3⟩
theorem OZ {m k:Expr} {p T pos d:Pos} {t1 t2:TE} (hc:X.calm=true) (hg:Gl X "dict") (hm:X.mg "dict"=none) (Y:Gl X "zip") (Z:X.mg "zip"=none) (U:PE X m t1) (h2:PE X k t2)
  (hv:bootBuiltins "dict"=some (.type "dict"):=by decide+kernel) (mM:bootBuiltins "zip"=some (.type "zip"):=by decide+kernel)
  (he:starEach [.Call (.Name "zip" T) [m,k] [] d] X.env=(false,eval (.Call (.Name "zip" T) [m,k] [] d) X.env)::starEach [] X.env:=by rfl) (cF:(backTo pos (starEach [] X.env)).any (·.1)=false:=by rfl)
  (J:starEach [m,k] X.env=(false,eval m X.env)::starEach [k] X.env:=by rfl) (L:(backTo d (starEach [k] X.env)).any (·.1)=false:=by rfl) (zD:starEach [k] X.env=(false,eval k X.env)::starEach [] X.env:=by rfl):
  PE X (.Call (.Name "dict" p) [.Call (.Name "zip" T) [m,k] [] d] [] pos) (zB X.K t1 t2):=by
 intro pins s σ H Q I h
 refine wpAny_Call_Name_kw (Em I hg hm hv ?_ (by decide) (by decide))
 refine PyProof.Rows.callWith_type1 ?_ he cF
 rw[he]
 show wpAny _ _ (spliced ((false,eval (.Call (.Name "zip" T) [m,k] [] d) X.env)::backTo pos (starEach [] X.env))) _ _ s
 refine Calls.spliced_cons ?_
 refine wpAny_Call_Name_kw (Em I Y Z mM ?_ (by decide) (by decide))
 refine PyProof.Rows.callWith_type1 (BZ ((AA U (AA h2 AB zD) J) d pins s σ H (zC X.K Q) I h) fun us f zq=>zq.elim fun vs H1 M r1 V=>?_) J L
 obtain⟨x,y,rfl⟩:∃x y,vs=[x,y]:=by
  rcases vs with _|⟨x,_|⟨y,_|⟨z,r⟩⟩⟩
  ·exact V.elim
  ·exact V.elim
  ·exact⟨x,y,rfl⟩
  ·exact V.elim
 obtain⟨a,b,W,ys,rfl,rfl,ha,hb,hl,hz,q⟩:=(show jc X.K x y H1 Q from V)
 obtain⟨u,v,rfl,ru,rv⟩:=vals2 r1
 cases ru
 cases rv
 obtain⟨its,r,pl,_⟩:=M.list ha
 obtain⟨N,r',B,_⟩:=M.list hb
 have C:a<f.heap.objs.size:=(let⟨_,e,_⟩:=pl.isList;Heap.lt_size e)
 have E:b<f.heap.objs.size:=(let⟨_,e,_⟩:=B.isList;Heap.lt_size e)
 have O:X.A.in1.handled=none:=I.ok.hd hc
 refine call_zip_2 pl.isList B.isList fun c z1 z2 z3 z4 z5 z6 k5=>?_
 refine Calls.spliced_nil ?_
 obtain⟨more,m1,m2,m3⟩:=OY (X:=X) hl r r'
 have D:=zipApart_new (n:=f.heap.objs.size) C E
 refine callType_codes (Q₁:=fun P t=>P=.ref c.objs.size/\t={f with heap:=c.push {cls:=.type "dict",data:=.dict #[]}}) F.kt_called_dict (F.kt_typeCall_dict_1 _) F.entry_dict_init (kt_code_dict_new _ ⟨rfl,rfl⟩) ?_
 rintro P t ⟨rfl,rfl⟩
 have i:(c.push {cls:=.type "dict",data:=.dict #[]}).DictOf (An X.prog X.w) c.objs.size []:=Heap.DictOf.new c
 refine⟨i.typeIs,F.args_dict_init_2 _ _,?_⟩
 unfold Builtin.«dict.__init__»
 refine wpAny_bind ?_
 unfold Builtin.Dict.selfAndRest
 refine wpAny_bind (wpAny_notOrdered_dict i.typeIs ?_)
 show wpAny _ _ (pure (c.objs.size,[Value.ref (f.heap.objs.size+4)])) _ _ _
 refine wpAny_pure ?_
 show wpAny _ _ (Builtin.Dict.updateFrom "dict.__init__" c.objs.size (.ref (f.heap.objs.size+4)) [] .none) _ _ _
 unfold Builtin.Dict.updateFrom
 have up:∀b o,c.get? b=some o->(c.push {cls:=.type "dict",data:=.dict #[]}).get? b=some o:=fun b o e=>Heap.get?_push_of_some _ e
 have zE:({f with heap:=c.push {cls:=.type "dict",data:=.dict #[]}}:Shared).TypeIs (.ref (f.heap.objs.size+4)) "zip":=⟨_,up _ _ z1,rfl⟩
 refine wpAny_bind (wpAny_typeOf zE ?_)
 rw[if_pos (by decide)]
 refine wpAny_bind (Kr (up _ _ z1) O fun U ym m ne1=>?_)
 rw[if_pos (show(Option.isNone (none:Option Value))=true from rfl)]
 have R:∀b o,(c.push {cls:=.type "dict",data:=.dict #[]}).get? b=some o->U.get? b=some o:=ne1.keeps
 have g:∀b o,c.get? b=some o->U.get? b=some o:=fun b o e=>R b o (up b o e)
 refine wpAny_bind (wpAny_rule ?_)
 refine wpAny_bind (wpAny_pyIter_zip (g _ _ z1) ?_)
 refine wpAny_pure ⟨plainId_quiet BP _,?_⟩
 obtain⟨od,es,ep,zF,rd⟩:=id i
 have lt5:∀{b o},c.get? b=some o->b≠c.objs.size:=fun e=>Nat.ne_of_lt (Heap.lt_size e)
 have mN:∀{b o},f.heap.get? b=some o->b<f.heap.objs.size:=fun e=>Heap.lt_size e
 have nS:f.heap.objs.size+4≠c.objs.size/\f.heap.objs.size+2≠c.objs.size/\f.heap.objs.size+3≠c.objs.size/\f.heap.objs.size≠c.objs.size/\f.heap.objs.size+1≠c.objs.size/\a≠c.objs.size/\b≠c.objs.size:=by
  have G:c.objs.size=f.heap.objs.size+5:=z6
  rw[G]
  generalize f.heap.objs.size=n at C E
  exact⟨by lia,by lia,by lia,by lia,by lia,Nat.ne_of_lt (Nat.lt_of_lt_of_le C (Nat.le_add_right _ _)),Nat.ne_of_lt (Nat.lt_of_lt_of_le E (Nat.le_add_right _ _))⟩
 show codeAny _ _ (.builtin "dict.update.loop" ⟨[.ref c.objs.size,.ref (f.heap.objs.size+4),rawInt ((0:Nat):Int),.none],[]⟩) _ _
 refine Tb (knd:=An X.prog X.w) (xs:=its.toArray) (ys:=N.toArray) (more:=more) O D nS (by rw[List.size_toArray,m2,<-r.length,List.length_map]) (by lia) (fun j k' v' e=>?_) more.length 0 _ (by simp) (Nat.zero_le _)
  ⟨.inl ⟨rfl,g _ _ z1,_,_,g _ _ z3⟩,g _ _ z2,z4.at fun o e=>g _ o e,z5.at fun o e=>g _ o e,(pl.isList.at fun o e=>g _ o (k5 _ o e)),(B.isList.at fun o e=>g _ o (k5 _ o e))⟩ ⟨od,es,ep,R _ _ zF,rd⟩ (fun h2 lh hd2 lj=>⟨rfl,?_⟩)
 ·obtain⟨key,c1,c2,c3⟩:=m3 j k' v' e
  exact⟨key,by simpa using c1,by simpa using c2,c3⟩
 ·have bY:(CG [] (dq W ys)).length<=sizeLine:=by
   have:=Cf (dq W ys) []
   have e:(dq W ys).length=W.length:=by unfold dq;rw[List.length_map,List.length_zip];lia
   exact Ab (by simp at this;lia)
  have G:c.objs.size=f.heap.objs.size+5:=z6
  have big:=M.big
  have l:f.heap.objs.size<=c.objs.size:=by rw[G];exact Nat.le_add_right _ _
  refine⟨.ref c.objs.size,_,M.laid (t':=lh) (fun b o e=>?_) l (HQ bY (beq_eq_false_iff_ne.mpr (Ne.symm (Nat.ne_of_lt (Nat.lt_of_lt_of_le big l)))) (KV.merge m1 .nil) hd2),rfl,q _ (M.BS.fresh l)⟩
  have S:=mN e
  exact lj b o (Nat.ne_of_lt (Nat.lt_of_lt_of_le S l)) (Nat.ne_of_lt (Nat.lt_of_lt_of_le S (Nat.le_add_right _ _))) (Nat.ne_of_lt (Nat.lt_of_lt_of_le S (Nat.le_add_right _ _))) (Nat.ne_of_lt S) (Nat.ne_of_lt (Nat.lt_of_lt_of_le S (Nat.le_add_right _ _))) (g _ _ (k5 _ _ e))
end
def du (n:Nat):It:=⟨fun i _=>i<n,fun i H x a=>a=H/\x=.int (((n:Nat):Int)-1-((i:Nat):Int)),fun i _=>n<=i⟩
theorem Tc {P:Program} {w:World} {K:ADv} {tg:Expr} (it:Addr) (n:Nat):Turn P w K tg (du n) [it] it (fun i h=>IsRangeIter h it ((((n:Nat):Int)-1)+(i:Nat)*(-1)) ((n:Int)-(i:Nat)) (-1))where
 mem:=by simp
 obj:=fun i h st b hb=>by
  have e:b=it:=by simpa using hb
  subst e
  exact⟨_,st,fun v z=>by
   have z':Data.fields _=Data.cell v:=z
   cases z'⟩
 keep:=fun i h h' st k=>k it (by simp) _ st
 item:=by
  intro X hP hw hK hc i pins s σ H E I hf st hg
  subst hP hw hK
  obtain⟨f0,f1,f2,f3,f4,f5⟩:=hf it (by simp)
  have W:=Walks.range (prog:=X.prog) (w:=X.w) (I.ok.hd hc) it (((n:Nat):Int)-1) (-1) n
  refine W.item i s _ _ hg st fun v h' tk hv RH kk=>?_
  obtain⟨t,rfl⟩:=hv
  have I1:Inv X pins σ H {s with heap:=h',toks:=tk}:=I.turned (fun b o hb e=>kk b o (by simpa using hb) e) f0 f1 f3 f4 f5
  refine⟨_,rfl,NT (s:={s with heap:=h',toks:=tk}) (n:="range_iterator") RH rfl rfl (by decide) ⟨.int (((n:Nat):Int)-1-((i:Nat):Int)),H,I1,⟨t,?_⟩,⟨rfl,rfl⟩,RH,fun b hb=>(hf b hb).1⟩⟩
  congr 1
  lia
 done:=by
  intro X hP hw hK hc i pins s σ H E I hf st hg
  subst hP hw hK
  obtain⟨f0,f1,f2,f3,f4,f5⟩:=hf it (by simp)
  exact wpAny_pyNext_range_end (I.ok.hd hc) st (by have:n<=i:=hg;lia) fun h' eb=>⟨rfl,I.turned (t':=s.toks) (fun b o hb e=>eb b o hb e) f0 f1 f3 f4 f5⟩
 self:=fun _ _ _ _ _ st h=>wpAny_pyIter_rangeiter st h
section
variable{X:Cx} {tg:Expr}
theorem YV {pins:List (Addr×Obj)} {σ:St} {H:Hp} {s:Shared} {R:It->Hp->Prop} {E:Value->Shared->Prop} {n:Nat} {t u v:Tok} {tk:Nat} (I:Inv X pins σ H s) (f:n<=1000)
  (q:R (du n) H):wpAny (model X.prog X.w) X.A (pyIter (.ref s.heap.objs.size)) (jU X pins σ tg R) E {s with heap:=s.heap.push {cls:=.type "range",data:=.fields #[.int (((n:Nat):Int)-1) t,.int (-1) u,.int (-1) v]},toks:=tk}:=by
 have sz:Builtin.Range.rangeSize (((n:Nat):Int)-1) (-1) (-1)=(n:Int):=by
  unfold Builtin.Range.rangeSize
  rw[if_neg (by decide)]
  split
  ·have:(((n:Nat):Int)-1-(-1)-1)/(-(-1))+1=n:=by
    rw[show(-(-1:Int))=1 from rfl,Int.ediv_one];lia
   exact this
  ·lia
 have c:Builtin.Range.small (((n:Nat):Int)-1) (-1) (-1)=true:=by
  unfold Builtin.Range.small
  rw[sz]
  simp only[Builtin.Range.rangeFitsLong,Bool.and_eq_true,Bool.or_eq_true,decide_eq_true_eq,beq_iff_eq,show¬((-1:Int)>0)by decide,if_false]
  lia
 refine wpAny_pyIter_range (IsRange.new ..) c ?_
 rw[sz]
 have a:Inv X pins σ H {s with heap:=s.heap.push {cls:=.type "range",data:=.fields #[.int (((n:Nat):Int)-1) t,.int (-1) u,.int (-1) v]},toks:=tk}:=I.kept fun b o e=>Heap.get?_push_of_some _ e
 refine⟨_,[(s.heap.push {cls:=.type "range",data:=.fields #[.int (((n:Nat):Int)-1) t,.int (-1) u,.int (-1) v]}).objs.size],_,_,H,rfl,
  a.kept (t':=tk) fun b o e=>Heap.get?_push_of_some _ e,Tc _ n,?_,fun b d=>?_,q⟩
 ·show IsRangeIter _ _ ((((n:Nat):Int)-1)+((0:Nat):Int)*(-1)) ((n:Int)-((0:Nat):Int)) (-1)
  rw[show(((n:Nat):Int)-1)+((0:Nat):Int)*(-1)=((n:Nat):Int)-1 by simp,show(n:Int)-((0:Nat):Int)=n by simp]
  exact Heap.get?_push_size _ rfl
 ·have e:b=(s.heap.push {cls:=.type "range",data:=.fields #[.int (((n:Nat):Int)-1) t,.int (-1) u,.int (-1) v]}).objs.size:=by simpa using d
  subst e
  exact a.Sg (Nat.le_refl _) (a.BS.fresh (Nat.le_refl _))
def gI (a:TA):TI:=fun b H R=>a b H fun c d=>∃n:Nat,c=[.int (((n:Nat):Int)-1),.int (-1),.int (-1)]/\n<=1000/\R (du n) d
theorem Td {a b c:Expr} {i:TA} {p pos:Pos} (j:Gl X "range") (k:X.mg "range"=none) (l:PA X [a,b,c] i) (m:starEach [a,b,c] X.env=[(false,eval a X.env),(false,eval b X.env),(false,eval c X.env)]:=by rfl) (d:starEach [b,c] X.env=[(false,eval b X.env),(false,eval c X.env)]:=by rfl):
  PI X tg (.Call (.Name "range" p) [a,b,c] [] pos) (gI i):=by
 intro pins s o H R I h
 refine Call_ (Em I j k boot_range (PyProof.Rows.callWith_type1 (BZ (l pos pins s o H _ I h) fun B C u=>u.elim fun D E v w x=>?_) (by rw[m,d]) (by rw[d];rfl)))
 obtain⟨n,e,y,q⟩:=x
 subst e
 cases w with
 |cons r f=>
  cases f with
  |cons z f=>
   cases f with
   |cons g f=>
    cases f
    obtain⟨t,rfl⟩:=r
    obtain⟨F,rfl⟩:=z
    obtain⟨A,rfl⟩:=g
    exact call_range_3 (by decide) (YV v y q) (.inl (PyProof.noPylong_small (by lia)))
end
theorem Vz {n:Nat} {g:TG} {f:TS} {D:Ends} {σ:St} {H:Hp} (Pv:Nat->St->Hp->Prop) (j:Pv n σ H)
  (k:∀i σ H,i<n->Pv (i+1) σ H->g (.int (i:Int)) σ H fun a H2=>f {D with nx:=Pv i,ct:=Pv i,bk:=D.nx} a H2) (l:∀σ H,Pv 0 σ H->D.nx σ H):
  ∃W:Nat->Nat->St->Hp->Prop,(∃m,W 0 m σ H)/\∀i m σ H,W i m σ H->
   ((du n).stop i H/\D.nx σ H)∨((du n).go i H/\∃N:St->Hp->Prop,(∀b c,N b c->∃h,h<m/\W (i+1) h b c)/\∀x c,(du n).Sf i H x c->g x σ c fun a H2=>f {D with nx:=N,ct:=N,bk:=D.nx} a H2):=by
 refine⟨fun i m σ H=>m=n-i/\i<=n/\Pv m σ H,⟨n,by simp,Nat.zero_le _,j⟩,?_⟩
 rintro i m σ H ⟨rfl,q,p⟩
 by_cases d:i<n
 ·refine .inr ⟨d,Pv (n-(i+1)),fun b c o=>⟨n-(i+1),by lia,rfl,d,o⟩,fun x c y=>?_⟩
  obtain⟨e,y⟩:=y
  subst e y
  have e:((n:Nat):Int)-1-((i:Nat):Int)=(((n-(i+1):Nat)):Int):=by lia
  rw[e]
  refine k (n-(i+1)) σ _ (by lia) ?_
  rw[show n-(i+1)+1=n-i by lia]
  exact p
 ·have e:i=n:=by lia
  subst e
  rw[Nat.sub_self]at p
  exact .inl ⟨Nat.le_refl _,l σ H p⟩
section
variable{K:ADv} [Ar K]
namespace Dc
mutual
def tr:Dc->Pt
 |leaf (.int i)=>.int i
 |leaf (.str x)=>.str x
 |leaf _=>.int 0
 |row _ xs=>.lst (Te xs)
 |tab _ ks xs=>.BF ks (Te xs)
def Te:List Dc->List Pt
 |[]=>[]
 |x::r=>tr x::Te r
end
theorem Ge:∀xs:List Dc,Te xs=xs.map tr
 |[]=>rfl
 |x::r=>by simp only[Te,List.map_cons,Ge r]
mutual
theorem Ro:∀d e:Dc,DI d e->e.tr=d.tr
 |leaf v,leaf w,h=>by simp only[DI]at h;subst h;rfl
 |row _ xs,row _ ys,h=>by simp only[DI]at h;simp only[tr,Ji xs ys h]
 |tab _ ks xs,tab _ ls ys,h=>by simp only[DI]at h;simp only[tr,Ji xs ys h.2,h.1]
 |leaf _,row _ _,h=>by simp[DI]at h
 |leaf _,tab _ _ _,h=>by simp[DI]at h
 |row _ _,leaf _,h=>by simp[DI]at h
 |row _ _,tab _ _ _,h=>by simp[DI]at h
 |tab _ _ _,leaf _,h=>by simp[DI]at h
 |tab _ _ _,row _ _,h=>by simp[DI]at h
theorem Ji:∀xs ys:List Dc,CS xs ys->Te ys=Te xs
 |[],[],_=>rfl
 |x::r,y::t,h=>by simp only[CS]at h;simp only[Te,Ro x y h.1,Ji r t h.2]
 |[],_::_,h=>by simp[CS]at h
 |_::_,[],h=>by simp[CS]at h
end
mutual
theorem V_ {H:Hp}:∀d:Dc,d.At H->Val H d.val d.tr
 |leaf v,h=>by
  simp only[At]at h
  rcases h with⟨i,rfl⟩|⟨x,rfl,_⟩
  ·exact .int i
  ·exact .str x
 |row a xs,h=>by
  simp only[At]at h
  exact .lst h.1 (Qc xs h.2)
 |tab a ks xs,h=>by
  simp only[At]at h
  refine .BF h.1 (JN h.2.1) ?_
  have e:(kvs ks xs).map (·.2)=xs.map val:=by
   rw[OF]
   exact EB (by rw[List.length_map];exact h.2.1)
  rw[e]
  exact Qc xs h.2.2.2
theorem Qc {H:Hp}:∀xs:List Dc,Gw H xs->Aa H (xs.map val) (Te xs)
 |[],_=>.nil
 |x::r,h=>by
  simp only[Gw]at h
  exact .cons (V_ x h.1) (Qc r h.2)
end
end Dc
theorem JX.val {H a:Hp} {d:Dc} (F:JX H a d):Val (nw H a) d.val d.tr:=by
 refine d.V_ (Dc.JM d (fun c b o e=>?_) F.at_)
 rw[Av (F.new c b)]
 exact e
theorem V':∀{kvs:List (Key×V)} {ks:List Str} {a:List Dc},kvs.map (·.1)=ks.map Sum.inr->a.map Dc.val=kvs.map (·.2)->kvs=Dc.kvs ks a
 |[],[],a,_,h=>by
  cases a with
  |nil=>rfl
  |cons _ _=>simp at h
 |[],_::_,_,h,_=>by simp at h
 |_::_,[],_,h,_=>by simp at h
 |(k,v)::kvs,y::ks,a,h,h'=>by
  simp only[List.map_cons,List.cons.injEq]at h
  cases a with
  |nil=>simp at h'
  |cons d a=>
   simp only[List.map_cons,List.cons.injEq]at h'
   obtain⟨b,c⟩:=h
   obtain⟨e,f⟩:=h'
   have g:=V' c f
   subst b e
   rw[g]
   rfl
mutual
theorem Val.dc {H:Hp}:∀(t:Pt) {v:V},Val H v t->t.doc->∃d:Dc,d.val=v/\d.At H/\d.tr=t/\d.slim/\d.size=t.size
 | .int i,_,.int _,_=>⟨.leaf (.int i),rfl,.inl ⟨i,rfl⟩,rfl,trivial,rfl⟩
 | .str x,_,.str _,d=>⟨.leaf (.str x),rfl,.inr ⟨x,rfl,d⟩,rfl,trivial,rfl⟩
 | .bl _,_,_,d=>by simp[Pt.doc]at d
 | .tup _,_,_,d=>by simp[Pt.doc]at d
 | .lst ts,_,.lst (a:=a) h r,d=>by
  simp only[Pt.doc]at d
  obtain⟨b,e,f,c,g,j⟩:=Aa.mO ts r d
  refine⟨.row a b,rfl,?_,by simp only[Dc.tr,c],by simp only[Dc.slim];exact g,by simp only[Dc.size,Pt.size,j]⟩
  simp only[Dc.At]
  exact⟨by rw[e];exact h,f⟩
 | .BF k ts,_,.BF (a:=a) (kvs:=kvs) h m r,d=>by
  simp only[Pt.doc]at d
  obtain⟨b,e,f,c,g,j⟩:=Aa.mO ts r d.2.2.2.2
  have l:k.length=b.length:=by
   have:=congrArg List.length c
   rw[Dc.Ge,List.length_map]at this
   rw[this];exact d.1
  refine⟨.tab a k b,rfl,?_,by simp only[Dc.tr,c],by simp only[Dc.slim];exact⟨by rw[<-l];exact d.2.2.2.1,g⟩,by simp only[Dc.size,Pt.size,j]⟩
  simp only[Dc.At]
  exact⟨by rw[<-V' m e];exact h,l,d.2.1,f⟩
theorem Aa.mO {H:Hp}:∀(ts:List Pt) {vs:List V},Aa H vs ts->Pt.CH ts->∃a:List Dc,a.map Dc.val=vs/\Dc.Gw H a/\Dc.Te a=ts/\Dc.JR a/\Dc.AJ a=Pt.AJ ts
 |[],_,.nil,_=>⟨[],rfl,trivial,rfl,trivial,rfl⟩
 |t::ts,_,.cons h r,d=>by
  simp only[Pt.CH]at d
  obtain⟨x,a1,a2,a3,a4,a5⟩:=Val.dc t h d.1
  obtain⟨a,b,c,e,f,g⟩:=Aa.mO ts r d.2
  exact⟨x::a,by rw[List.map_cons,a1,b],by simp only[Dc.Gw];exact⟨a2,c⟩,by simp only[Dc.Te,a3,e],by simp only[Dc.JR];exact⟨a4,f⟩,by simp only[Dc.AJ,Pt.AJ,a5,g]⟩
end
theorem Oa {vs:List V} {H:Hp} {Q:VK} {E:XK} {v:V} {t:Pt} (e:vs=[v]) (b:Val H v t) (d:t.doc) (z:t.size<=900) (q:∀(w:V) (a:Hp),AG H a->Val (nw H a) w t->Q w a):GU vs H Q E:=by
 obtain⟨dc,rfl,a2,a3,a4,a5⟩:=Val.dc t b d
 exact⟨dc,e,a2,a4,by lia,fun c a F lk=>q _ _ F.same (by rw[<-a3,<-Dc.Ro _ _ lk];exact F.val)⟩
theorem Ob {vs:List V} {H:Hp} {Q:VK} {E:XK} (h:Ii vs H Q E):E' vs H Q E:=by
 obtain⟨d,rfl,b,e,f,q⟩:=h
 refine⟨d.val,d.tr,rfl,d.V_ b,?_,fun p l g s n j st=>q p l g s n j ?_⟩
 ·cases d with
  |leaf v=>
   simp only[Dc.At]at b
   rcases b with⟨i,rfl⟩|⟨x,rfl,_⟩<;>trivial
  |row a c=>
   simp only[Dc.size]at f
   have:=Dc.CV c
   show(Dc.Te c).length<=900
   rw[Dc.Ge,List.length_map];lia
  |tab a k c=>
   simp only[Dc.At]at b
   simp only[Dc.slim]at e
   exact⟨by rw[Dc.Ge,List.length_map];exact b.2.1,by rw[b.2.1];exact e.1⟩
 ·cases d with
  |leaf v=>
   simp only[Dc.At]at b
   rcases b with⟨i,rfl⟩|⟨x,rfl,_⟩<;>exact st
  |row a c=>
   have:l=(List.range (Dc.Te c).length).map fun(i:Nat)=>V.int (i:Int):=st
   rw[Dc.Ge,List.length_map]at this
   exact this
  |tab a k c=>exact st
end
namespace Ak
mutual
def Br:Ak->Prop
 |any=>True
 |Ao d=>d.doc
 |row xs _=>El xs
 |tab ks xs ls _=>ks.length=xs.length/\ks.Nodup/\(∀k∈ks,CB k=true)/\ks.length<60/\ls.length<=100/\(∀l∈ls,l∉ks)/\El xs
def El:List Ak->Prop
 |[]=>True
 |x::r=>Br x/\El r
end
mutual
def wt:Ak->Nat
 |any=>1
 |Ao d=>d.size
 |row xs _=>1+Dm xs
 |tab _ xs _ _=>1+Dm xs
def Dm:List Ak->Nat
 |[]=>0
 |x::r=>wt x+Dm r
end
mutual
def dp:Ak->Nat
 |any=>1
 |Ao d=>d.deep
 |row xs _=>1+Jj xs
 |tab _ xs _ _=>1+Jj xs
def Jj:List Ak->Nat
 |[]=>0
 |x::r=>max (dp x) (Jj r)
end
theorem Bg:∀{xs:List Ak},El xs->∀x∈xs,Br x
 |y::r,h,x,a=>by
  simp only[El]at h
  rcases List.mem_cons.mp a with rfl|a
  ·exact h.1
  ·exact Bg h.2 x a
theorem cH (a:Ak):1<=a.wt:=by cases a<;>simp only[wt]<;>first|lia|exact Pt.size_pos _
mutual
theorem Gf:∀a:Ak,a.size<=a.wt
 |any=>by simp[size,wt]
 |Ao d=>by simp only[size,wt];exact Pt.size_pos d
 |row xs _=>by have:=Cn xs;simp only[size,wt];lia
 |tab _ xs _ _=>by have:=Cn xs;simp only[size,wt];lia
theorem Cn:∀xs:List Ak,AJ xs<=Dm xs
 |[]=>Nat.le_refl _
 |x::r=>by have:=Gf x;have:=Cn r;simp only[AJ,Dm];lia
end
theorem Gg:∀{xs:List Ak} {x:Ak},x∈xs->x.wt<=Dm xs
 |y::r,x,h=>by
  simp only[Dm]
  rcases List.mem_cons.mp h with rfl|h
  ·lia
  ·have:=Gg h;lia
theorem Gh:∀{xs:List Ak} {x:Ak},x∈xs->x.dp<=Jj xs
 |y::r,x,h=>by
  simp only[Jj]
  rcases List.mem_cons.mp h with rfl|h
  ·lia
  ·have:=Gh h;lia
theorem Oc {a b:List Ak} (p:a.Perm b):Dm a=Dm b:=by
 induction p with
 |nil=>rfl
 |cons x _ c=>simp only[Dm,c]
 |swap x y l=>simp only[Dm];lia
 |trans _ _ d e=>exact d.trans e
theorem WA {a b:List Ak} (p:a.Perm b):Jj a=Jj b:=by
 induction p with
 |nil=>rfl
 |cons x _ c=>simp only[Jj,c]
 |swap x y l=>simp only[Jj];lia
 |trans _ _ d e=>exact d.trans e
mutual
theorem gJ:∀a:Ak,a.ok->a.Br
 |any,_=>trivial
 |Ao d,h=>by simp only[ok]at h;exact h.2.1
 |row xs _,h=>by simp only[ok]at h;simp only[Br];exact WB xs h
 |tab ks xs ls _,h=>by
  simp only[ok]at h
  obtain⟨b,c,e,h4,f,g,i⟩:=h
  simp only[Br]
  exact⟨b,c,e,h4,Nat.le_trans f.1 (by decide),g,WB xs i⟩
theorem WB:∀xs:List Ak,HU xs->El xs
 |[],_=>trivial
 |x::r,h=>by simp only[HU]at h;exact⟨gJ x h.1,WB r h.2⟩
end
mutual
theorem aF:∀a:Ak,a.ok->a.wt<=10*a.size
 |any,_=>by simp[wt,size]
 |Ao d,h=>by simp only[ok]at h;simp only[wt,size];lia
 |row xs _,h=>by simp only[ok]at h;have:=Qd xs h;simp only[wt,size];lia
 |tab b xs c _,h=>by simp only[ok]at h;have:=Qd xs h.2.2.2.2.2.2;simp only[wt,size];lia
theorem Qd:∀xs:List Ak,HU xs->Dm xs<=10*AJ xs
 |[],_=>Nat.le_refl _
 |x::r,h=>by simp only[HU]at h;have:=aF x h.1;have:=Qd r h.2;simp only[Dm,AJ];lia
end
end Ak
theorem Sm.gK {d:Pt} (h:Sm d):d.deep<=3:=by
 have one:∀a:List Pt,(∀x∈a,TY x)->Pt.AV a<=1:=by
  intro a
  induction a with
  |nil=>intro _;simp[Pt.AV]
  |cons x r b=>
   intro h
   have c:=h x List.mem_cons_self
   have f:=b fun y e=>h y (List.mem_cons_of_mem _ e)
   have:x.deep<=1:=by cases c<;>simp[Pt.deep,Pt.AV]
   simp only[Pt.AV];lia
 cases h with
 |one h=>cases h<;>simp[Pt.deep,Pt.AV]
 |row h=>have:=one _ h;simp only[Pt.deep];lia
 |tab h=>have:=one _ h;simp only[Pt.deep];lia
namespace Ak
mutual
theorem aG:∀a:Ak,a.ok->a.dp<=a.deep+2
 |any,_=>by simp[dp,deep]
 |Ao d,h=>by simp only[ok]at h;have:=h.1.gK;simp only[dp,deep];lia
 |row b _,h=>by simp only[ok]at h;have:=Qe b h;simp only[dp,deep];lia
 |tab c b e _,h=>by simp only[ok]at h;have:=Qe b h.2.2.2.2.2.2;simp only[dp,deep];lia
theorem Qe:∀xs:List Ak,HU xs->Jj xs<=AV xs+2
 |[],_=>by simp[Jj]
 |x::r,h=>by simp only[HU]at h;have:=aG x h.1;have:=Qe r h.2;simp only[Jj,AV];lia
end
theorem LX:∀ls:List Str,Pt.AV (ls.map Pt.str)<=1
 |[]=>by simp[Pt.AV]
 |x::r=>by have:=LX r;simp only[List.map_cons,Pt.AV,Pt.deep];lia
mutual
theorem WC:∀a:Ak,a.pt.deep<=2*a.dp+2
 |any=>by simp[pt,Pt.deep,Pt.AV,dp]
 |Ao d=>by simp only[pt,Pt.deep,Pt.AV,dp];lia
 |row xs m=>by have:=Qf xs;simp only[pt,Pt.deep,Pt.AV,dp];lia
 |tab c xs b m=>by have:=Qf xs;have:=LX b;simp only[pt,Pt.deep,Pt.AV,dp];lia
theorem Qf:∀xs:List Ak,Pt.AV (Fh xs)<=2*Jj xs+2
 |[]=>by simp[Fh,Pt.AV]
 |x::r=>by have:=WC x;have:=Qf r;simp only[Fh,Pt.AV,Jj];lia
end
mutual
theorem Jk:∀a:Ak,a.Br->a.wt<=900->a.pt.nice
 | .any,_,_=>by simp[Ak.pt,Pt.nice,Pt.DO]
 | .Ao d,o,z=>by
  simp only[Br]at o
  simp only[wt]at z
  simp only[Ak.pt,Pt.nice,Pt.DO]
  exact⟨by simp,trivial,Pt.Gb d o z,trivial⟩
 | .row xs m,o,z=>by
  simp only[Br]at o
  simp only[wt]at z
  have:=Ak.CV xs
  have:=Cn xs
  simp only[Ak.pt,Pt.nice,Pt.DO]
  exact⟨by simp,trivial,⟨by rw[Ak.BH,List.length_map];lia,Hr xs o (by lia)⟩,trivial,trivial⟩
 | .tab c xs e m,o,z=>by
  simp only[Br]at o
  simp only[wt]at z
  simp only[Ak.pt,Pt.nice,Pt.DO]
  refine⟨by simp,trivial,⟨by rw[Ak.BH,List.length_map];exact o.1,o.2.1,by lia,Hr xs o.2.2.2.2.2.2 (by lia)⟩,⟨by rw[List.length_map];lia,Pt.OR fun x b=>?_⟩,trivial,trivial⟩
  obtain⟨y,_,rfl⟩:=List.mem_map.mp b
  trivial
theorem Hr:∀xs:List Ak,El xs->Dm xs<=900->Pt.DO (Ak.Fh xs)
 |[],_,_=>trivial
 |x::r,o,z=>by
  simp only[El]at o
  simp only[Dm]at z
  simp only[Ak.Fh,Pt.DO]
  exact⟨Jk x o.1 (by lia),Hr r o.2 (by lia)⟩
end
def Kd:Ak->List Ak->Prop
 |row xs _,as=>as=xs
 |tab ks xs _ _,as=>∃ss:List Str,ss.Perm ks/\sortedS ss=true/\ss.map (lk ks xs)=as.map some
 |_,as=>as=[]
end Ak
theorem some_inj {c:Type}:∀{a b:List c},a.map some=b.map some->a=b
 |[],[],_=>rfl
 |[],_::_,h=>by simp at h
 |_::_,[],h=>by simp at h
 |x::r,y::q,h=>by
  simp only[List.map_cons,List.cons.injEq]at h
  rw[ADt h.1,some_inj h.2]
namespace Ak
theorem Kd.one {a:Ak} {as bs:List Ak} (h:Kd a as) (h':Kd a bs):as=bs:=by
 cases a with
 |row b m=>exact(show as=b from h).trans (show bs=b from h').symm
 |tab k b l m=>
  obtain⟨n,c,e,f⟩:=h
  obtain⟨o,g,i,j⟩:=h'
  have:=CN e i (c.trans g.symm)
  subst this
  exact some_inj (f.symm.trans j)
 |any=>exact(show as=[]from h).trans (show bs=[]from h').symm
 |Ao d=>exact(show as=[]from h).trans (show bs=[]from h').symm
theorem Kd.ok {a:Ak} {as:List Ak} (h:Kd a as) (o:a.Br):∀x∈as,x.Br:=by
 cases a with
 |row c m=>simp only[Br]at o;rw[show as=c from h];exact Bg o
 |tab g c i m=>
  simp only[Br]at o
  obtain⟨j,e,k,f⟩:=h
  intro x b
  have:=(Cu o.1 o.2.1 e f).mem_iff.mp b
  exact Bg o.2.2.2.2.2.2 x this
 |any=>rw[show as=[]from h];exact fun x b=>nomatch b
 |Ao d=>rw[show as=[]from h];exact fun x b=>nomatch b
theorem Kd.size {a:Ak} {as:List Ak} (h:Kd a as) (o:a.Br):a.size=1+AJ as:=by
 cases a with
 |row b m=>rw[show as=b from h];rfl
 |tab f b g m=>
  simp only[Br]at o
  obtain⟨i,c,j,e⟩:=h
  have:=ES (Cu o.1 o.2.1 c e)
  simp only[Ak.size];lia
 |any=>rw[show as=[]from h];rfl
 |Ao d=>rw[show as=[]from h];rfl
theorem Kd.wt {a:Ak} {as:List Ak} (h:Kd a as) (o:a.Br):∀x∈as,x.wt<=a.wt:=by
 cases a with
 |row c m=>rw[show as=c from h];intro x b;have:=Gg b;simp only[Ak.wt];lia
 |tab g c i m=>
  simp only[Br]at o
  obtain⟨j,e,k,f⟩:=h
  intro x b
  have:=Gg ((Cu o.1 o.2.1 e f).mem_iff.mp b)
  simp only[Ak.wt];lia
 |any=>rw[show as=[]from h];exact fun x b=>nomatch b
 |Ao d=>rw[show as=[]from h];exact fun x b=>nomatch b
def Cp:List Ak->Option (List Pt)
 |[]=>some []
 |Ao d::r=>(Cp r).map (d::·)
 |_::_=>none
def Bo (cs:List Ak) (m:Bool):Ak:=if m then row cs true else match Cp cs with
 |some a=>Ao (.lst a)
 |none=>row cs false
def Bp (ss:List Str) (cs:List Ak) (ls:List Str) (m:Bool):Ak:=if m then tab ss cs ls true else match Cp cs with
 |some a=>Ao (.BF ss a)
 |none=>tab ss cs [] false
mutual
inductive Good:Ak->Ak->Prop
 |any:Good .any .any
 |Ao (d:Pt):Good (.Ao d) (.Ao d)
 |row {xs cs:List Ak} {m:Bool} (h:CZ xs cs):Good (.row xs m) (Bo cs m)
 |tab {ks ss:List Str} {xs as cs:List Ak} {ls:List Str} {m:Bool} (a:ss.Perm ks) (b:sortedS ss=true) (e:ss.map (lk ks xs)=as.map some) (h:CZ as cs):Good (.tab ks xs ls m) (Bp ss cs ls m)
inductive CZ:List Ak->List Ak->Prop
 |nil:CZ [] []
 |cons {x y:Ak} {xs ys:List Ak} (h:Good x y) (r:CZ xs ys):CZ (x::xs) (y::ys)
end
theorem CZ.length:∀{xs ys:List Ak},CZ xs ys->xs.length=ys.length
 |_,_,.nil=>rfl
 |_,_,.cons _ r=>by rw[List.length_cons,List.length_cons,r.length]
theorem Bu:∀{cs:List Ak} {a:List Pt},Cp cs=some a->cs=a.map Ao
 |[],a,h=>by simp only[Cp]at h;cases h;rfl
 |Ao d::r,a,h=>by
  simp only[Cp]at h
  cases e:Cp r with
  |none=>rw[e]at h;cases h
  |some es=>
   rw[e]at h
   cases h
   rw[Bu e]
   rfl
 |any::_,_,h=>by simp[Cp]at h
 |row _ _::_,_,h=>by simp[Cp]at h
 |tab _ _ _ _::_,_,h=>by simp[Cp]at h
theorem Jl:∀a:List Pt,Dm (a.map Ao)=Pt.AJ a
 |[]=>rfl
 |d::r=>by simp only[List.map_cons,Dm,wt,Pt.AJ,Jl r]
theorem Jm:∀a:List Pt,Jj (a.map Ao)=Pt.AV a
 |[]=>rfl
 |d::r=>by simp only[List.map_cons,Jj,dp,Pt.AV,Jm r]
theorem Jn:∀a:List Pt,El (a.map Ao)->Pt.CH a
 |[],_=>trivial
 |d::r,h=>by simp only[List.map_cons,El,Br]at h;exact⟨h.1,Jn r h.2⟩
theorem Qg (cs:List Ak) (m:Bool):(Bo cs m).wt=1+Dm cs:=by
 unfold Bo
 split
 ·rfl
 ·split
  ·rename_i a e
   rw[Bu e,Jl]
   rfl
  ·rfl
theorem Qh (ss:List Str) (cs:List Ak) (ls:List Str) (m:Bool):(Bp ss cs ls m).wt=1+Dm cs:=by
 unfold Bp
 split
 ·rfl
 ·split
  ·rename_i a e
   rw[Bu e,Jl]
   rfl
  ·rfl
theorem Qi (cs:List Ak) (m:Bool):(Bo cs m).dp=1+Jj cs:=by
 unfold Bo
 split
 ·rfl
 ·split
  ·rename_i a e
   rw[Bu e,Jm]
   rfl
  ·rfl
theorem Qj (ss:List Str) (cs:List Ak) (ls:List Str) (m:Bool):(Bp ss cs ls m).dp=1+Jj cs:=by
 unfold Bp
 split
 ·rfl
 ·split
  ·rename_i a e
   rw[Bu e,Jm]
   rfl
  ·rfl
theorem Qk {cs:List Ak} (m:Bool) (h:El cs):(Bo cs m).Br:=by
 unfold Bo
 split
 ·exact h
 ·split
  ·rename_i a e
   rw[Bu e]at h
   exact Jn a h
  ·exact h
theorem Ql {ss:List Str} {cs:List Ak} {ls:List Str} (m:Bool) (l:ss.length=cs.length) (nd:ss.Nodup) (a:∀k∈ss,CB k=true) (sz:ss.length<60) (b:ls.length<=100) (c:∀l∈ls,l∉ss) (h:El cs):(Bp ss cs ls m).Br:=by
 unfold Bp
 split
 ·exact⟨l,nd,a,sz,b,c,h⟩
 ·split
  ·rename_i d e
   rw[Bu e]at h l
   rw[List.length_map]at l
   simp only[Br,Pt.doc]
   exact⟨l,nd,a,by lia,Jn d h⟩
  ·exact⟨l,nd,a,sz,by simp,(fun l f=>by simp at f),h⟩
mutual
theorem Good.keeps:∀{a b:Ak},Good a b->a.Br->b.Br/\b.wt=a.wt/\b.dp=a.dp
 |_,_,.any,_=>⟨trivial,rfl,rfl⟩
 |_,_,.Ao d,h=>⟨h,rfl,rfl⟩
 |_,_,.row (xs:=xs) (m:=m) h,o=>by
  simp only[Br]at o
  obtain⟨f,g,i⟩:=h.keeps (Bg o)
  refine⟨Qk _ f,?_,?_⟩
  ·rw[Qg,g];rfl
  ·rw[Qi,i];rfl
 |_,_,.tab (ks:=ks) (ss:=ss) (xs:=xs) (as:=as) (ls:=ls) c B e h,o=>by
  simp only[Br]at o
  obtain⟨p,n,q,r,s,t,u⟩:=o
  have j:=Cu p n c e
  obtain⟨f,g,i⟩:=h.keeps fun x v=>Bg u x (j.mem_iff.mp v)
  have w:as.length=ss.length:=by have:=congrArg List.length e;simpa using this.symm
  refine⟨Ql _ (by rw[<-h.length,w]) (c.nodup_iff.mpr n) (fun k y=>q k (c.mem_iff.mp y)) (by rw[c.length_eq];exact r) s (fun l A z=>t l A (c.mem_iff.mp z)) f,?_,?_⟩
  ·rw[Qh,g,Oc j];rfl
  ·rw[Qj,i,WA j];rfl
theorem CZ.keeps:∀{as bs:List Ak},CZ as bs->(∀a∈as,a.Br)->El bs/\Dm bs=Dm as/\Jj bs=Jj as
 |_,_,.nil,_=>⟨trivial,rfl,rfl⟩
 |_,_,.cons h r,o=>by
  obtain⟨b,c,d⟩:=h.keeps (o _ List.mem_cons_self)
  obtain⟨e,f,g⟩:=r.keeps fun x i=>o x (List.mem_cons_of_mem _ i)
  exact⟨⟨b,e⟩,by simp only[Dm,c,f],by simp only[Jj,d,g]⟩
end
end Ak
structure YW (root:Ak) (n:Nat) (l:List Ak) (gL:List (List Ak)):Prop where
 len:gL.length=n
 eq:l=root::gL.flatten
 kids:∀(j:Nat) a ks,l[j]?=some a->gL[j]?=some ks->Ak.Kd a ks
 ok:∀a∈l,a.Br/\a.wt<=root.wt
 sum:n+Ak.AJ (l.drop n)=root.size
 pos:∀j,j<n->j<=(gL.take j).flatten.length
theorem YW.start {a:Ak} (o:a.Br):YW a 0 [a] []:=⟨rfl,rfl,fun j a c _ h=>by simp at h,fun x b=>by rw[List.mem_singleton.mp b];exact⟨o,Nat.le_refl _⟩,by simp[Ak.AJ],fun j h=>by lia⟩
theorem YW.next {root:Ak} {n:Nat} {l:List Ak} {c:List (List Ak)} (b:YW root n l c) {a:Ak} (d:l[n]?=some a) {ks:List Ak} (g:Ak.Kd a ks):YW root (n+1) (l++ks) (c++[ks]):=by
 obtain⟨p,q,t,r,s,u⟩:=b
 have i:=(ADs d).1
 have o:=r a (ADu d)
 refine⟨by simp[p],by rw[q];simp,fun j x k m f=>?_,fun x v=>?_,?_,fun j w=>?_⟩
 ·by_cases w:j<n
  ·rw[List.getElem?_append_left (by lia)]at m f
   exact t j x k m f
  ·have:=(ADs f).1
   rw[List.length_append,List.length_singleton]at this
   have e:j=n:=by lia
   subst e
   rw[List.getElem?_append_left i,d]at m
   rw[List.getElem?_append_right (by lia),p,Nat.sub_self]at f
   cases m
   have:ks=k:=by simpa using f
   subst this
   exact g
 ·rcases List.mem_append.mp v with h|h
  ·exact r x h
  ·have:=g.wt o.1 x h
   exact⟨g.ok o.1 x h,by lia⟩
 ·have y:l.drop n=a::l.drop (n+1):=by
   rw[List.drop_eq_getElem_cons i]
   rw[ADr i]at d
   rw[ADt d]
  have sz:=g.size o.1
  rw[y]at s
  simp only[Ak.AJ]at s
  rw[List.drop_append_of_le_length (by lia),Ak.Am]
  lia
 ·by_cases h:j<n
  ·rw[List.take_append_of_le_length (by lia)]
   exact u j h
  ·have e:j=n:=by lia
   subst e
   rw[List.take_append_of_le_length (by lia),List.take_of_length_le (by lia)]
   rw[q,List.length_cons]at i
   lia
theorem YW.at_ {root:Ak} {l:List Ak} {a:List (List Ak)} (b:YW root l.length l a) {j:Nat} {ks:List Ak} (c:a[j]?=some ks):j<1+(a.take j).flatten.length/\(l.drop (1+(a.take j).flatten.length)).take ks.length=ks/\1+(a.take (j+1)).flatten.length=1+(a.take j).flatten.length+ks.length/\1+(a.take j).flatten.length+ks.length<=l.length:=by
 have d:=(ADs c).1
 have f:a=a.take j++ks::a.drop (j+1):=by
  have:a.drop j=ks::a.drop (j+1):=by
   rw[List.drop_eq_getElem_cons d]
   rw[ADr d]at c
   rw[ADt c]
  rw[<-this,List.take_append_drop]
 have e:l=root::((a.take j).flatten++(ks++(a.drop (j+1)).flatten)):=by
  have:=b.eq
  rw[f]at this
  rw[this]
  simp
 have g:a.take (j+1)=a.take j++[ks]:=by rw[List.take_add_one,c];rfl
 refine⟨?_,?_,?_,?_⟩
 ·have:=b.pos j (by rw[<-b.len];exact d)
  lia
 ·have:l.drop (1+(a.take j).flatten.length)=ks++(a.drop (j+1)).flatten:=by
   rw[show 1+(a.take j).flatten.length=(a.take j).flatten.length+1 by lia]
   conv=>lhs;rw[e]
   rw[List.drop_succ_cons,List.drop_left]
  rw[this,List.take_left']
  rfl
 ·rw[g]
  simp
  lia
 ·rw[e]
  simp
  lia
def Pt.hold:Pt->Pt
 | .tup (.str w::h::_)=>if w="row"∨w="table"then h else .lst []
 |_=>.lst []
mutual
inductive Pg:Nat->Pt->Prop
 |leaf {w:Str} {r:List Pt} (a:w≠"row") (b:w≠"table"):Pg 1 (.tup (.str w::r))
 |row {n:Nat} {xs r:List Pt} (h:ED n xs):Pg (n+1) (.tup (.str "row"::.lst xs::r))
 |tab {n:Nat} {ks:List Str} {xs r:List Pt} (l:ks.length=xs.length) (nd:ks.Nodup) (z:ks.length<64) (h:ED n xs):Pg (n+1) (.tup (.str "table"::.BF ks xs::r))
inductive ED:Nat->List Pt->Prop
 |nil:ED 0 []
 |cons {n m:Nat} {x:Pt} {r:List Pt} (h:Pg n x) (t:ED m r):ED (n+m) (x::r)
end
theorem Pg.pos {n:Nat} {t:Pt} (h:Pg n t):1<=n:=by cases h<;>lia
theorem ED.len:∀{n:Nat} {xs:List Pt},ED n xs->xs.length<=n
 |_,_,.nil=>Nat.le_refl _
 |_,_,.cons h t=>by have:=h.pos;have:=t.len;rw[List.length_cons];lia
theorem ED.append:∀{n m:Nat} {xs ys:List Pt},ED n xs->ED m ys->ED (n+m) (xs++ys)
 |_,_,_,_,.nil,s=>by rw[Nat.zero_add];exact s
 |_,_,_,_,.cons h t,s=>by rw[Nat.add_assoc];exact .cons h (t.append s)
theorem ED.perm {n:Nat} {xs ys:List Pt} (p:xs.Perm ys) (h:ED n xs):ED n ys:=by
 induction p generalizing n with
 |nil=>exact h
 |cons x _ d=>cases h with|cons h t=>exact .cons h (d t)
 |swap x y l=>
  cases h with
  |cons h t=>
   cases t with
   |@cons a b _ _ e t=>
    rename_i c
    rw[show c+(a+b)=a+(c+b)by lia]
    exact .cons e (.cons h t)
 |trans _ _ f g=>exact g (f h)
theorem Pg.Rp {n:Nat} {t:Pt} (h:Pg n t) (z:n<=900):DY t.hold:=by
 cases h with
 |@leaf w r b c=>
  have e:Pt.hold (.tup (.str w::r))=.lst []:=by
   cases r with
   |nil=>rfl
   |cons h r=>simp[Pt.hold,b,c]
  rw[e]
  exact Nat.zero_le _
 |@row n a r h=>have:=h.len;show DY (.lst a);exact show a.length<=900 by lia
 |@tab n f a r l nd d h=>exact⟨l,d⟩
theorem Pg.kids {n:Nat} {t:Pt} {us:List Pt} (h:Pg n t) (k:IY t.hold us):∃m,ED m us/\n=m+1:=by
 cases h with
 |@leaf w r d f=>
  have e:Pt.hold (.tup (.str w::r))=.lst []:=by
   cases r with
   |nil=>rfl
   |cons h r=>simp[Pt.hold,d,f]
  rw[e]at k
  rw[show us=[]from k]
  exact⟨0,.nil,rfl⟩
 |@row n b r h=>
  have:us=b:=k
  subst this
  exact⟨n,h,rfl⟩
 |@tab n c b r l nd z h=>
  obtain⟨a,g,i,e⟩:=(show∃a:List Str,a.Perm c/\sortedS a=true/\a.map (lk c b)=us.map some from k)
  exact⟨n,h.perm (Cu l nd g e).symm,rfl⟩
inductive Tf (root:Pt):Nat->List Pt->List (List Pt)->Prop
 |start:Tf root 0 [root] []
 |next{n:Nat} {l:List Pt} {a:List (List Pt)} {t:Pt} {us:List Pt} (b:Tf root n l a) (c:l[n]?=some t) (k:IY t.hold us):Tf root (n+1) (l++us) (a++[us])
theorem YX {N n m:Nat} {l us:List Pt} {t:Pt} (h:ED m (l.drop n)) (e:n+m=N) (a:l[n]?=some t) (k:IY t.hold us) (z:N<=900):DY t.hold/\us.length<=900/\∃b,b<m/\ED b ((l++us).drop (n+1))/\n+1+b=N:=by
 have c:=(ADs a).1
 have f:l.drop n=t::l.drop (n+1):=by
  rw[List.drop_eq_getElem_cons c]
  rw[ADr c]at a
  rw[ADt a]
 rw[f]at h
 cases h with
 |@cons j g _ _ h r=>
  obtain⟨i,d,o⟩:=h.kids k
  have:=d.len
  refine⟨h.Rp (by lia),by lia,g+i,by lia,?_,by lia⟩
  rw[List.drop_append_of_le_length (by lia)]
  exact r.append d
theorem gM {N n m:Nat} {l:List Pt} {t:Pt} (h:ED m (l.drop n)) (e:n+m=N) (a:l[n]?=some t) (z:N<=900):∃b,b<=900/\Pg b t:=by
 have c:=(ADs a).1
 have d:l.drop n=t::l.drop (n+1):=by
  rw[List.drop_eq_getElem_cons c]
  rw[ADr c]at a
  rw[ADt a]
 rw[d]at h
 cases h with
 |@cons f g _ _ h r=>exact⟨f,by lia,h⟩
namespace Ak
mutual
theorem nd:∀a:Ak,a.Br->Pg a.size a.pt
 |any,_=>.leaf (by decide) (by decide)
 |Ao d,_=>.leaf (by decide) (by decide)
 |row xs m,o=>by
  simp only[Br]at o
  simp only[size,pt]
  rw[Nat.add_comm]
  exact .row (mP xs o)
 |tab ks xs ls m,o=>by
  simp only[Br]at o
  simp only[size,pt]
  rw[Nat.add_comm]
  exact .tab (by rw[BH,List.length_map];exact o.1) o.2.1 (by lia) (mP xs o.2.2.2.2.2.2)
theorem mP:∀xs:List Ak,El xs->ED (AJ xs) (Fh xs)
 |[],_=>.nil
 |x::r,o=>by
  simp only[El]at o
  exact .cons (nd x o.1) (mP r o.2)
end
theorem aH {a:Ak} {us:List Pt} (o:a.Br) (k:IY a.pt.hold us):∃as,Kd a as/\us=as.map pt:=by
 cases a with
 |any=>exact⟨[],rfl,show us=[]from k⟩
 |Ao d=>
  have:us=[]:=by
   have h:IY (.lst []) us:=by
    have e:(Ak.Ao d).pt.hold=.lst []:=by simp only[pt,Pt.hold];exact if_neg (by decide)
    rw[e]at k
    exact k
   exact h
  exact⟨[],rfl,this⟩
 |row xs m=>exact⟨xs,rfl,by rw[<-BH];exact k⟩
 |tab c xs l m=>
  simp only[Br]at o
  obtain⟨b,f,i,e⟩:=(show∃b:List Str,b.Perm c/\sortedS b=true/\b.map (lk c (Fh xs))=us.map some from k)
  obtain⟨as,g⟩:=Hd (xs:=xs) o.1 fun k j=>f.mem_iff.mp j
  refine⟨as,⟨b,f,i,g⟩,?_⟩
  refine some_inj (e.symm.trans ?_)
  rw[BH,List.map_map]
  have:b.map (lk c (xs.map pt))=(b.map (lk c xs)).map (Option.map pt):=by
   rw[List.map_map]
   exact List.map_congr_left fun k _=>Fw pt
  rw[this,g,List.map_map]
  rfl
theorem WD {a:Ak} (o:a.Br):∀{n:Nat} {l:List Pt} {f:List (List Pt)},Tf a.pt n l f->∃as c,YW a n as c/\l=as.map pt
 |_,_,_,.start=>⟨[a],[],YW.start o,rfl⟩
 |_,_,_,.next (n:=n) (us:=us) b d k=>by
  obtain⟨as,c,B,rfl⟩:=WD o b
  rw[List.getElem?_map]at d
  cases e:as[n]? with
  |none=>rw[e]at d;cases d
  |some x=>
   rw[e]at d
   cases d
   obtain⟨g,k1,rfl⟩:=aH (B.ok x (ADu e)).1 k
   exact⟨as++g,c++[g],B.next e k1,by rw[List.map_append]⟩
end Ak
section
variable{K:ADv} [Ar K]
theorem BY.vf {l a:Addr} {H c:Hp} {xs:List V} (h:BY K (Dk l H) a xs) (b:Bt (some l) H c):BY K c a xs:=h.imp (fun r=>r.up fun o e=>by
 have d:a≠l:=fun z=>by unfold Dk at e;rw[if_pos z]at e;cases e
 rw[DM d]at e
 exact b.keep _ _ (fun z=>d (ADt z).symm) e) id
theorem Val.node {H:Hp} {v:V} {n:Nat} {t:Pt} (h:Val H v t) (d:Pg n t):∃(a:Addr) (w:Str) (rest:List V),v=.ref a/\BY K H a (.str w::rest)/\((w≠"row"/\w≠"table"/\t.hold=.lst [])∨((w="row"∨w="table")/\∃u r,rest=u::r/\Val H u t.hold)):=by
 cases d with
 |@leaf w r e f=>
  cases h with
  |tup h q=>
   cases q with
   |cons b q=>
    cases b
    refine⟨_,w,_,rfl,h,.inl ⟨e,f,?_⟩⟩
    cases r with
    |nil=>rfl
    |cons h r=>simp[Pt.hold,e,f]
 |@row n g r d=>
  cases h with
  |tup h q=>
   cases q with
   |cons b q=>
    cases b
    cases q with
    |cons c q=>exact⟨_,"row",_,rfl,h,.inr ⟨.inl rfl,_,_,rfl,c⟩⟩
 |@tab n i g r l nd z d=>
  cases h with
  |tup h q=>
   cases q with
   |cons b q=>
    cases b
    cases q with
    |cons c q=>exact⟨_,"table",_,rfl,h,.inr ⟨.inr rfl,_,_,rfl,c⟩⟩
theorem Od {H:Hp}:∀zs:List Str,Aa H (zs.map V.str) (zs.map Pt.str)
 |[]=>.nil
 |z::r=>.cons (.str z) (Od r)
theorem Fx {H:Hp}:∀{ls:List Str} {vs:List V},Aa H vs (ls.map Pt.str)->vs=ls.map V.str
 |[],_,h=>by cases h;rfl
 |x::r,_,h=>by
  cases h with
  |cons a b=>cases a;rw[List.map_cons,Fx b]
structure Fd (H0 Hi:Hp) (as:List Ak) (ts:List V) (at_:Nat):Prop where
 len:ts.length=as.length
 val:∀(j:Nat) x,at_<=j->as[j]?=some x->∃w b,ts[j]?=some w/\Ak.Good x b/\Val (nw H0 Hi) w b.pt
theorem Fd.up {a c d:Hp} {as:List Ak} {ts:List V} {n:Nat} (f:Fd a c as ts n) (s:∀b o,a b=none->c b=some o->d b=some o):Fd a d as ts n:=⟨f.len,fun j x e g=>let⟨w,b,i,k,l⟩:=f.val j x e g;⟨w,b,i,k,l.up (BX (fun _ h=>h) s)⟩⟩
theorem Fd.slice {a c:Hp} {as:List Ak} {ts:List V} {n:Nat} (f:Fd a c as ts n):∀(k s:Nat),n<=s->s+k<=as.length->∃cs,Ak.CZ ((as.drop s).take k) cs/\Aa (nw a c) ((ts.drop s).take k) (cs.map Ak.pt)
 |0,s,_,_=>⟨[],by rw[List.take_zero];exact .nil,by rw[List.take_zero];exact .nil⟩
 |k+1,s,e,l=>by
  obtain⟨cs,g,h⟩:=f.slice k (s+1) (by lia) (by lia)
  have l1:s<as.length:=by lia
  have l2:s<ts.length:=by rw[f.len];exact l1
  obtain⟨w,b,d,i,j⟩:=f.val s as[s] e (ADr l1)
  rw[ADr l2]at d
  refine⟨b::cs,?_,?_⟩
  ·rw[List.drop_eq_getElem_cons l1,List.take_succ_cons]
   exact .cons i g
  ·rw[List.drop_eq_getElem_cons l2,List.take_succ_cons,List.map_cons,ADt d]
   exact .cons j h
theorem Fd.set {a h c:Hp} {as:List Ak} {ts:List V} {n:Nat} (f:Fd a h as ts (n+1)) (s:∀b o,a b=none->h b=some o->c b=some o) {x:Ak} (i:as[n]?=some x) {w:V} {b:Ak} (g:Ak.Good x b) (hw:Val (nw a c) w b.pt):Fd a c as (ts.set n w) n:=by
 refine⟨by rw[List.length_set,f.len],fun j y t d=>?_⟩
 have k:=(ADs i).1
 by_cases e:j=n
 ·subst e
  rw[i]at d
  cases d
  exact⟨w,b,by rw[List.getElem?_set_self (by rw[f.len];exact k)],g,hw⟩
 ·obtain⟨l,m,p,q,r⟩:=(f.up s).val j y (by lia) d
  exact⟨l,m,by rw[List.getElem?_set_ne (Ne.symm e)];exact p,q,r⟩
theorem WE (l:List V) (i j:Nat) (h:i<=j) (a:j<=l.length):Ki l (some (i:Int)) (some (j:Int))=(l.drop i).take (j-i):=by
 unfold Ki
 rw[HT.RN,HT.RN,Nat.min_eq_left a,Nat.min_eq_left (Nat.le_trans h a)]
inductive Oe {K:ADv} [Ar K] (vs:List V) (H:Hp) (Q:VK) (a:XK):Prop
 |mk (G:Hp) (v:V) (t:Pt) (n:Nat) (c:vs=[v]) (d:AG G H) (e:Val G v t) (f:Pg n t) (g:∀(w:V) (b:Hp),AG H b->(Val G w t.hold∨(t.hold=.lst []/\∃p,w=.ref p/\b p=some (.lst [])))->Q w b):Oe vs H Q a
def Mj:Sp:=fun a H Q E=>Oe a H Q E
inductive LY {K:ADv} [Ar K] (vs:List V) (H:Hp) (Q:VK) (a:XK):Prop
 |mk (G:Hp) (v:V) (t:Pt) (n:Nat) (c:vs=[v]) (d:AG G H) (e:Val G v t) (f:Pg n t) (g:n<=900) (h:∀(p:Addr) (es:List V) (us:List Pt) (b:Hp),AG H b->H p=none->b p=some (.lst es)->Aa G es us->IY t.hold us->Q (.ref p) b):LY vs H Q a
def Jo:Sp:=fun a H Q E=>LY a H Q E
inductive Of {K:ADv} [Ar K] (d:Addr) (vs:List V) (H:Hp) (Q:VK) (a:XK):Prop
 |mk (G:Hp) (v:V) (t:Pt) (n:Nat) (e:vs=[v,.ref d]) (f:AG G H) (g:Val G v t) (h:Pg n t) (i:n<=900) (j:∀(p:Addr) (es:List V) (l:List Pt) (b:List (List Pt)) (c:Hp),AG H c->H p=none->c p=some (.lst es)->Aa G es l->Tf t l.length l b->l.length<=900->Q (.ref p) c):Of d vs H Q a
def Ml (a:Addr):Sp:=fun b H Q E=>Of a b H Q E
inductive Hs {K:ADv} [Ar K] (vs:List V) (H:Hp) (Q:VK) (b:XK):Prop
 |row (v:V) (ts:List Pt) (L:Addr) (ws:List V) (c:vs=[v,.ref L]) (d:Val H v (.lst ts)) (e:H L=some (.lst ws)) (f:ws.length<=900) (g:∀(p:Addr) (a:Hp),AG H a->H p=none->a p=some (.lst ws)->Q (.ref p) a):Hs vs H Q b
 |tab (v:V) (ks:List Str) (ts:List Pt) (L:Addr) (ws:List V) (c:vs=[v,.ref L]) (d:Val H v (.BF ks ts)) (e:H L=some (.lst ws)) (f:DY (.BF ks ts)) (g:ws.length=ks.length) (h:ks.Nodup) (i:∀(p:Addr) (ss:List Str) (a:Hp),AG H a->H p=none->ss.Perm ks->sortedS ss=true->a p=some (.dK (EH ss ws))->Q (.ref p) a):Hs vs H Q b
def Gi:Sp:=fun a H Q E=>Hs a H Q E
def Ak.dy:Ak->Bool
 | .Ao _=>false
 |_=>true
theorem YY:∀{cs:List Ak} {vs:List V},vs.length=cs.length->(∀(i:Nat) v,vs[i]?=some v->∃c,cs[i]?=some c/\v=.bl c.dy)->∃bs:List Bool,vs=bs.map V.bl/\bs.any id=(Ak.Cp cs).isNone:=by
 intro cs
 induction cs with
 |nil=>intro vs l _;have:vs=[]:=List.eq_nil_of_length_eq_zero l;subst this;exact⟨[],rfl,rfl⟩
 |cons c r f=>
  intro vs l h
  cases vs with
  |nil=>simp at l
  |cons v vs=>
   obtain⟨bs,rfl,g⟩:=f (vs:=vs) (by simpa using l) fun i v j=>by
    obtain⟨a,b,e⟩:=h (i+1) v (by simpa using j)
    exact⟨a,by simpa using b,e⟩
   obtain⟨a,b,e⟩:=h 0 v rfl
   have:c=a:=by simpa using b
   subst this
   refine⟨c.dy::bs,by rw[e];rfl,?_⟩
   rw[List.any_cons,g]
   cases c with
   |Ao d=>simp[Ak.Cp,Ak.dy]
   |_=>simp[Ak.Cp,Ak.dy]
inductive Gj:Pt->List Ak->(List Pt->Pt)->Prop
 |row (cs:List Ak) (z:cs.length<=900):Gj (.lst (cs.map Ak.pt)) cs .lst
 |tab (ss:List Str) (cs:List Ak) (l:ss.length=cs.length) (nd:ss.Nodup) (z:ss.length<64) (a:sortedS ss=true):Gj (.BF ss (cs.map Ak.pt)) cs (.BF ss)
theorem Gj.Rp {t:Pt} {cs:List Ak} {mk:List Pt->Pt} (h:Gj t cs mk):DY t:=by
 cases h with
 |row cs z=>show(cs.map Ak.pt).length<=900;rw[List.length_map];exact z
 |tab a cs l nd z b=>exact⟨by rw[List.length_map];exact l,z⟩
theorem Gj.len {t:Pt} {cs:List Ak} {mk:List Pt->Pt} (h:Gj t cs mk):cs.length<=900:=by
 cases h with
 |row cs z=>exact z
 |tab a cs l nd z b=>lia
theorem Gj.kids {t:Pt} {cs:List Ak} {mk:List Pt->Pt} (h:Gj t cs mk) {us:List Pt} (k:IY t us):us=cs.map Ak.pt:=by
 refine k.one ?_
 cases h with
 |row cs z=>rfl
 |tab a cs l nd z b=>exact⟨a,.refl _,b,Ga (by rw[List.length_map];exact l) nd⟩
inductive LZ {K:ADv} [Ar K] (vs:List V) (H:Hp) (Q:VK) (a:XK):Prop
 |mk (c:Hp) (v:V) (t:Pt) (cs:List Ak) (mk:List Pt->Pt) (f:vs=[v]) (g:Val (nw c H) v t) (h:Gj t cs mk) (i:∀b,H b=none->c b=none) (j:∀(w:V) (d:Hp),AG H d->(Ak.Cp cs=none/\w=.BO∨∃e,Ak.Cp cs=some e/\Val (nw c d) w (Ak.Ao (mk e)).pt)->Q w d):LZ vs H Q a
def Gk:Sp:=fun a H Q E=>LZ a H Q E
inductive Jp {K:ADv} [Ar K] (vs:List V) (H:Hp) (Q:VK) (c:XK):Prop
 |mk (a:Hp) (L:Addr) (ws:List V) (cs:List Ak) (m:Bool) (e:vs=[.ref L,.bl m]) (f:H L=some (.lst ws)) (g:Aa (nw a H) ws (cs.map Ak.pt)) (h:ws.length<=900) (i:∀b,H b=none->a b=none) (j:a L=none) (k:∀(w:V) (d:Hp),AG H d->Val (nw a d) w (Ak.Bo cs m).pt->Q w d):Jp vs H Q c
def Ht:Sp:=fun a H Q E=>Jp a H Q E
inductive Jq {K:ADv} [Ar K] (vs:List V) (H:Hp) (Q:VK) (c:XK):Prop
 |mk (G a:Hp) (L:Addr) (ss:List Str) (ws:List V) (cs:List Ak) (z:V) (ls:List Str) (m:Bool) (g:vs=[.ref L,z,.bl m]) (h:H L=some (.dK (EH ss ws))) (i:Aa (nw a H) ws (cs.map Ak.pt)) (j:ss.length=ws.length) (k:ss.Nodup) (l:ss.length<64) (n:sortedS ss=true) (o:∀b,H b=none->a b=none) (p:a L=none) (q:Val H z (.lst (ls.map Pt.str))) (e:ls.length<=100) (f:∀(w:V) (d:Hp),AG H d->Val (nw a d) w (Ak.Bp ss cs ls m).pt->Q w d):Jq vs H Q c
def Hu:Sp:=fun a H Q E=>Jq a H Q E
inductive ID {K:ADv} [Ar K] (vs:List V) (H:Hp) (Q:VK) (d:XK):Prop
 |mk (G c:Hp) (v:V) (a:Ak) (L:Addr) (ws:List V) (as cs:List Ak) (h:vs=[v,.ref L]) (i:AG G H) (j:Val G v a.pt) (k:a.Br) (l:a.wt<=900) (m:H L=some (.lst ws)) (n:c L=none) (o:∀b,H b=none->c b=none) (p:Ak.Kd a as) (q:Ak.CZ as cs) (f:Aa (nw c H) ws (cs.map Ak.pt)) (g:∀(w:V) (b:Ak) (e:Hp),AG H e->Val (nw c e) w b.pt->Ak.Good a b->Q w e):ID vs H Q d
def Jr:Sp:=fun a H Q E=>ID a H Q E
inductive Og {K:ADv} [Ar K] (e f:Addr) (vs:List V) (H:Hp) (Q:VK) (c:XK):Prop
 |mk (G:Hp) (v:V) (a:Ak) (g:vs=[v,.ref e,.ref f]) (h:AG G H) (i:Val G v a.pt) (j:a.Br) (k:a.wt<=900) (l:∀(w:V) (b:Ak) (d:Hp),AG H d->Val (nw H d) w b.pt->Ak.Good a b->Q w d):Og e f vs H Q c
def Mm (a b:Addr):Sp:=fun c H Q E=>Og a b c H Q E
inductive Oh {K:ADv} [Ar K] (vs:List V) (H:Hp) (Q:VK) (c:XK):Prop
 |mk (G:Hp) (v:V) (a:Ak) (e:vs=[v]) (f:AG G H) (g:Val G v a.pt) (h:a.Br) (i:a.wt<=900) (j:∀(w:V) (b:Ak) (d:Hp),AG H d->Val (nw H d) w b.pt->Ak.Good a b->Q w d):Oh vs H Q c
def Im:Sp:=fun a H Q E=>Oh a H Q E
end
def Rq (w:World):Bool:=w.params.followText "set-order"
structure gN (prog:Program) (w:World) (h:Heap) (a:Addr) (ss:List Str) (o:Obj) (es:Array (Int×Value)) (ep:Nat) (t:SetTable) (us:List Str):Prop where
 at_:h.get? a=some o
 ex:o.ExactSet
 da:o.data=.set es ep t
 el:ElemsOf (PySem.strKind prog w) es.toList
 st:StrsAre (es.toList.map (·.2)) us
 pm:us.Perm ss
 fi:t.fits es.size=true
 le:t.led= !Rq w
 pl:ss≠[]->t.plain=false
def SS (prog:Program) (w:World) (h:Heap) (a:Addr) (ss:List Str):Prop:=∃o b c t d,gN prog w h a ss o b c t d
theorem SS.keep {prog:Program} {w:World} {h h':Heap} {a:Addr} {ss:List Str} (x:SS prog w h a ss) (k:∀o,h.get? a=some o->h'.get? a=some o):SS prog w h' a ss:=by
 obtain⟨o,b,c,t,d,y⟩:=x
 exact⟨o,b,c,t,d,k o y.at_,y.ex,y.da,y.el,y.st,y.pm,y.fi,y.le,y.pl⟩
theorem De:∀{vs:List Value} {ss:List Str},StrsAre vs ss->vs.length=ss.length
 |_,_,.nil=>rfl
 |_,_,.cons _ _ r=>by rw[List.length_cons,List.length_cons,De r]
theorem gN.size {prog:Program} {w:World} {h:Heap} {a:Addr} {ss us:List Str} {o:Obj} {es:Array (Int×Value)} {ep:Nat} {t:SetTable} (x:gN prog w h a ss o es ep t us):es.size=ss.length:=by
 have:=De x.st
 rw[List.length_map,Array.length_toList,x.pm.length_eq]at this
 exact this
theorem Eb {l e:List Value} (p:l.Perm e):∀{ss:List Str},StrsAre l ss->∃us,StrsAre e us/\us.Perm ss:=by
 induction p with
 |nil=>intro ss h;exact⟨ss,h,.refl _⟩
 |cons x _ f=>
  intro ss h
  cases h with
  |cons y t h=>
   obtain⟨us,c,d⟩:=f h
   exact⟨y::us,.cons y t c,d.cons y⟩
 |swap x y l=>
  intro ss h
  cases h with
  |cons a t h=>
   cases h with
   |cons b u h=>exact⟨b::a::_,.cons b u (.cons a t h),.swap a b _⟩
 |trans _ _ g i=>
  intro ss h
  obtain⟨us,c,d⟩:=g h
  obtain⟨j,k,m⟩:=i c
  exact⟨j,k,m.trans d⟩
theorem IE:∀{vs:List Value} {ss:List Str},StrsAre vs ss->∀{v:Value},v∈vs->∃x t,v=.str x t/\x∈ss
 |_,_,.cons x t r,v,h=>by
  rcases List.mem_cons.mp h with rfl|h
  ·exact⟨x,t,rfl,List.mem_cons_self⟩
  ·obtain⟨y,u,e,m⟩:=IE r h
   exact⟨y,u,e,List.mem_cons_of_mem _ m⟩
theorem Gm:∀{vs:List Value} {ss:List Str},StrsAre vs ss->∀(x:Str) (t:Tok),StrsAre (vs++[.str x t]) (ss++[x])
 |_,_,.nil,x,t=>.cons x t .nil
 |_,_,.cons y u r,x,t=>.cons y u (Gm r x t)
theorem Rr (t:SetTable) (j:Nat):(t.put j).1.led=t.led/\(t.put j).1.plain=t.plain:=⟨rfl,rfl⟩
theorem Qm (t:SetTable) (es:Array (Int×Value)) (h:Int) (x:Value):(layNew t es h x).2.1.led=t.led/\(t.plain=false->(layNew t es h x).2.1.plain=false):=by
 unfold layNew
 split
 ·rename_i slot d _
  dsimp only
  unfold SetTable.orStandIn
  split
  ·exact⟨(Rr t slot).1,fun h=>(Rr t slot).2.trans h⟩
  ·exact⟨rfl,fun _=>rfl⟩
 ·exact⟨rfl,fun _=>rfl⟩
theorem Mn (t:SetTable) (es:Array (Int×Value)) (n:Nat):(relayAll t es n).2.1.led=t.led/\(t.plain=false->(relayAll t es n).2.1.plain=false):=by
 unfold relayAll
 split
 ·rename_i b order e
  have a:b.led=t.led/\b.plain=t.plain:=by
   unfold SetTable.relaid SetTable.laid at e
   cases c:SetTable.layClean (SetTable.sizeAbove n-1) (es.map (·.1))with
   |none=>rw[c]at e;cases e
   |some d=>rw[c]at e;cases e;exact⟨rfl,rfl⟩
  dsimp only
  split
  ·exact⟨a.1,fun h=>a.2.trans h⟩
  ·exact⟨rfl,fun _=>rfl⟩
 ·exact⟨rfl,fun _=>rfl⟩
section
variable{prog:Program} {w:World} {A:Around} {E:Value->Shared->Prop} {s:Shared}
theorem cI {a:Addr} {ss:List Str} {x:Str} {tk:Tok} {Q:Bool->Shared->Prop} (hS:SS prog w s.heap a ss) (nx:x∉ss) (hz:ss.length<1000)
  (h:∀h',Heap.SameBut a s.heap h'->SS prog w h' a (ss++[x])->Q true {s with heap:=h'}):wpAny (model prog w) A (setAddHashed a (.str x tk) ((PySem.strKind prog w).hash x)) Q E s:=by
 obtain⟨o,F,ep,t,us,Y⟩:=hS
 have J:=Y.size
 have S:scanBound=4096:=rfl
 have D:(PySem.strKind prog w).is x (.str x tk)=true:=by simp[PySem.strKind,Value.isStrOf]
 unfold setAddHashed setAddHashedIn
 refine wpAny_holding (wpAny_bind (wpAny_setState_of Y.at_ Y.da Y.fi ?_))
 dsimp only
 rw[byScan_of (knd:=strKind prog w) rfl (by rw[J,S];lia) Y.el,if_pos rfl]
 unfold setAddByScan
 refine wpAny_bind (wpAny_bind (wpAny_rule (wpAny_bind (wpAny_setScan_of D Y.at_ Y.da Y.fi Y.el ?_))))
 have hn:F.toList.findIdx? (fun e=>(PySem.strKind prog w).is x e.2)=none:=by
  rw[List.findIdx?_eq_none_iff]
  intro e he
  obtain⟨y,u,O,m⟩:=IE Y.st (List.mem_map_of_mem (f:=(·.2)) he)
  rw[O]
  rw[Bool.eq_false_iff]
  intro z
  obtain⟨d,e2⟩:=Value.isStrOf_shape (show Value.isStrOf x (.str y u)=true from z)
  have ey:y=x:=by injection e2
  exact nx (by rw[<-ey];exact Y.pm.mem_iff.mp m)
 rw[hn]
 dsimp only
 have K:∀(b:Bool) {k:Shared} {T:Unit->Shared->Prop},T () k->wpAny (model prog w) A (match b with|true=>rule "set.scan.the-table-gave-way"|false=>pure ()) T E k:=fun b k T hq=>by
  cases b
  ·exact wpAny_pure hq
  ·exact wpAny_rule hq
 have g:=layNew_perm t F ((PySem.strKind prog w).hash x) (.str x tk)
 have v:=layNew_fits t F ((PySem.strKind prog w).hash x) (.str x tk)
 have B:=Qm t F ((PySem.strKind prog w).hash x) (.str x tk)
 generalize layNew t F ((PySem.strKind prog w).hash x) (.str x tk)=L at g v B⊢
 obtain⟨c,t1,wd,gv⟩:=L
 dsimp only at g v B⊢
 rw[Array.toList_push]at g
 have U:ElemsOf (PySem.strKind prog w) c.toList:=(Y.el.push D rfl).perm g
 have M:c.size=ss.length+1:=by rw[<-Array.length_toList,g.length_eq,List.length_append,Array.length_toList,J];rfl
 obtain⟨C,V,W⟩:∃C,StrsAre (c.toList.map (·.2)) C/\C.Perm (us++[x]):=by
  have G:(F.toList++[((PySem.strKind prog w).hash x,Value.str x tk)]).map (·.2)=F.toList.map (·.2)++[.str x tk]:=by rw[List.map_append];rfl
  have h2:=Eb (g.symm.map (·.2)) (ss:=us++[x]) (by rw[G];exact Gm Y.st x tk)
  exact h2
 have X:C.Perm (ss++[x]):=W.trans (Y.pm.append_right _)
 refine wpAny_bind (K _ ?_)
 have fin:∀d:SetTable,d.led=(!Rq w)->d.plain=false->d.fits c.size=true->wpAny (model prog w) A (do
    storeSet a c d
    if(!wd&&d.tooFull)=true then do
      (match(relayAll d c (SetTable.grown c.size)).2.2 with|true=>rule "set.scan.the-table-gave-way"|false=>pure ())
      storeSet a (relayAll d c (SetTable.grown c.size)).1 (relayAll d c (SetTable.grown c.size)).2.1
      pure (some true)
     else pure (some true)) (fun r H=>r=some true/\Q true H) E s:=fun d l2 p2 f2=>by
  have one:∀{G:Heap} {I:Obj} {O:Array (Int×Value)} {n:Nat} {ta:SetTable} (j:Array (Int×Value)) (i:SetTable),G.get? a=some I->I.ExactSet->I.data=.set O n ta->j.toList.Perm c.toList->i.led=(!Rq w)->i.plain=false->i.fits j.size=true->
    (G.update a (Obj.putSet j i)).get? a=some {I with data:=.set j (n+1) i}/\SS prog w (G.update a (Obj.putSet j i)) a (ss++[x]):=fun{G I O n ta} j i ho hx hd N l p f=>by
   have hg:(G.update a (Obj.putSet j i)).get? a=some {I with data:=.set j (n+1) i}:=by
    have:=Heap.get?_update_self (Obj.putSet j i) ho (by rw[putSet_of j i hd];rfl)
    rw[putSet_of j i hd]at this
    exact this
   obtain⟨Z,q1,q2⟩:=Eb (N.symm.map (·.2)) V
   exact⟨hg,_,j,n+1,i,Z,hg,hx,rfl,U.perm N,q1,q2.trans X,f,l,fun _=>p⟩
  obtain⟨g1,S1⟩:=one c d Y.at_ Y.ex Y.da (.refl _) l2 p2 f2
  have b1:=Heap.SameBut.update s.heap a (Obj.putSet c d)
  refine wpAny_bind (wpAny_storeSet_of Y.at_ Y.da ?_ (fits_of_scanBound (by rw[M,S];lia)))
  split
  ·have P:=relayAll_perm d c (SetTable.grown c.size)
   have fr:=relayAll_fits d c (SetTable.grown c.size)
   have R:=Mn d c (SetTable.grown c.size)
   generalize relayAll d c (SetTable.grown c.size)=Rl at P fr R⊢
   obtain⟨e3,t3,g3⟩:=Rl
   dsimp only at P fr R⊢
   have vh:e3.size=c.size:=by rw[<-Array.length_toList,P.length_eq,Array.length_toList]
   refine wpAny_bind (K _ (wpAny_bind (wpAny_storeSet_of g1 rfl ?_ (fits_of_scanBound (by rw[vh,M,S];lia)))))
   obtain⟨_,S3⟩:=one e3 t3 g1 Y.ex rfl P (R.1.trans l2) (R.2 p2) fr
   exact wpAny_pure ⟨rfl,h _ (b1.trans (Heap.SameBut.update _ a _)) S3⟩
  ·exact wpAny_pure ⟨rfl,h _ b1 S1⟩
 have done:∀{r:Option Bool} {H:Shared},r=some true/\Q true H->wpAny (model prog w) A (match r with|some added=>pure added|none=>setAddHashedIn a (.str x tk) ((PySem.strKind prog w).hash x) 99999) Q E H:=fun⟨e,q⟩=>by subst e;exact wpAny_pure q
 split
 ·rename_i N
  refine wpAny_bind ?_
  rw[hashByValue_scannable 8 (x:=.str x tk) rfl]
  refine wpAny_pure ?_
  refine BZ (fin {t1 with plain:=false} (B.1.trans Y.le) rfl (SetTable.fits_plain_off v)) fun r H hr=>?_
  obtain⟨rfl,q⟩:=hr
  exact wpAny_pure q
 ·rename_i N
  refine wpAny_bind (wpAny_pure ?_)
  refine BZ (fin t1 (B.1.trans Y.le) (by simpa using N) v) fun r H hr=>?_
  obtain⟨rfl,q⟩:=hr
  exact wpAny_pure q
end
section
variable{prog:Program} {w:World} {A:Around} {R:Result->Shared->Prop}
theorem WG {I l S:Addr} {items:Array Value} {ss:List Str} (U:A.handled=none) (p:l≠I) (c:S≠I) (q:S≠l) (O:StrsAre items.toList ss) (nd:ss.Nodup) (hsz:ss.length<1000):
  ∀(k i:Nat) (s:Shared),ss.length-i=k->i<=ss.length->s.heap.IsListIter I l i->s.heap.IsList l items->SS prog w s.heap S (ss.take i)->
   (∀h' tk,SS prog w h' S ss->(∀b o,b≠S->b≠I->s.heap.get? b=some o->h'.get? b=some o)->R (.ok (.ret .none)) {s with heap:=h',toks:=tk})->
   codeAny (model prog w) A (.builtin "set.update.loop" ⟨[.ref S,.ref I],[]⟩) R s:=by
 have W:=Walks.list (prog:=prog) (w:=w) (A:=A.in1) U I l p items
 have hlen:items.size=ss.length:=by have:=De O;rw[Array.length_toList]at this;exact this
 intro k
 induction k with
 |zero=>
  intro i s V X d u f B
  have C:i=ss.length:=by lia
  subst C
  refine codeAny_builtin PyProof.Rows.F.entry_set_update_loop ?_
  rw[Around.under_plainId PyProof.Rows.F.plain_set_update_loop _]
  show wpAny _ A.in1 (pyNext (.ref I)>>=_) _ _ s
  refine wpAny_bind (W.done s _ _ (by rw[hlen];exact⟨d,u⟩) fun h' tk kept=>?_)
  rw[List.take_length]at f
  show wpAny _ A.in1 (ret Value.none) _ _ _
  exact wpAny_pure (B h' tk (f.keep fun o e=>kept _ o (by simp[c]) e) fun b o _ Y e=>kept b o (by simp[Y]) e)
 |succ k D=>
  intro i s V X d u f B
  have a:i<ss.length:=by lia
  obtain⟨x,n⟩:∃x,ss[i]?=some x:=⟨_,ADr a⟩
  refine codeAny_builtin PyProof.Rows.F.entry_set_update_loop ?_
  rw[Around.under_plainId PyProof.Rows.F.plain_set_update_loop _]
  show wpAny _ A.in1 (pyNext (.ref I)>>=_) _ _ s
  refine wpAny_bind (W.item i s _ _ (by rw[hlen];exact a) ⟨d,u⟩ fun v h' tk Z g kept=>?_)
  obtain⟨j,rfl⟩:∃t,v=.str x t:=by
   have gen:∀{E:List Value} {G:List Str},StrsAre E G->∀{i:Nat} {v:Value} {x:Str},E[i]?=some v->G[i]?=some x->∃t,v=.str x t:=by
    intro E G h
    induction h with
    |nil=>intro i v x e _;simp at e
    |cons y t r D=>
     intro i v x H m
     cases i with
     |zero=>simp at H m;subst H m;exact⟨t,rfl⟩
     |succ i=>exact D (by simpa using H) (by simpa using m)
   exact gen O (by rw[Array.getElem?_toList];exact Z) n
  have J:SS prog w h' S (ss.take i):=f.keep fun o e=>kept _ o (by simp[c]) e
  have nx:x∉ss.take i:=fun z=>by
   have e:ss=ss.take i++ss.drop i:=(List.take_append_drop i ss).symm
   have f:ss.drop i=x::ss.drop (i+1):=by
    rw[List.drop_eq_getElem_cons a]
    rw[ADr a]at n
    rw[ADt n]
   rw[e,f]at nd
   exact(List.nodup_append.mp nd).2.2 x z x List.mem_cons_self rfl
  show wpAny _ A.in1 (holding [Value.str x j] (setAdd S (.str x j))>>=_) _ _ _
  refine wpAny_bind (wpAny_holding ?_)
  unfold setAdd
  refine wpAny_holding (wpAny_bind ((PySem.strKind prog w).pyHash (k:=x) (by simp[PySem.strKind,Value.isStrOf]) ?_))
  refine cI (s:={s with heap:=h',toks:=tk+1}) J nx (by rw[List.length_take];lia) fun h2 K P=>?_
  have m:ss.take i++[x]=ss.take (i+1):=by rw[List.take_add_one,n];rfl
  rw[m]at P
  refine wpAny_pure ⟨plainId_quiet PyProof.Rows.F.plain_set_update_loop _,D (i+1) _ (by lia) a (g.1.at fun o e=>by rw[K.2 I (Ne.symm c)];exact e) (g.2.at fun o e=>by rw[K.2 l (Ne.symm q)];exact e) P fun h3 L M N=>B h3 L M fun b o Q T e=>N b o Q T ?_⟩
  show h2.get? b=some o
  rw[K.2 b Q]
  exact kept b o (by simp[T]) e
end
section
variable{prog:Program} {w:World} {A:Around} {E:Value->Shared->Prop} {s:Shared}
theorem YZ (a:Value) {Q₁:Value->Shared->Prop} (h:Q₁ (.ref s.heap.objs.size) {s with heap:=s.heap.push {cls:=.type "set",dict:=none,data:=.set #[] 0 (.fresh 0 0 (!Rq w))}}):
  codeAny (model prog w) A (.call (.builtin "set.__new__") ⟨[.type "set",a],[]⟩) (wants Q₁ E) s:=by
 refine codeAny_of_tree ?_
 show wpAny _ A.in1 (do checkBuiltinCall "set.__new__" ⟨[.type "set",a],[]⟩;again (.builtin "set.__new__" ⟨[.type "set",a],[]⟩)) _ _ s
 refine wpAny_bind (wpAny_of_eq (PySem.F.newCall_set_1 a) (wpAny_pure ⟨plainId_quiet PySem.F.plain_set_new _,codeAny_builtin PySem.F.entry_set_new ?_⟩))
 rw[Around.under_plainId PySem.F.plain_set_new _]
 unfold Builtin.«set.__new__» Builtin.Frozenset.newClass
 have b:=sub_set_self
 obtain⟨c,g,d,e,os⟩:=s
 dsimp only
 wp_walk
 refine wpAny_askSetting (wpAny_pure ?_)
 dsimp only
 simp only[newObj]
 exact wpAny_bind (wpAny_alloc (wpAny_pure (wpAny_pure h)))
end
abbrev Mo (w:World):Obj:={cls:=.type "set",dict:=none,data:=.set #[] 0 (.fresh 0 0 (!Rq w))}
theorem SS.fresh {prog:Program} {w:World} {h:Heap} {a:Addr} (e:h.get? a=some (Mo w)):SS prog w h a []:=
 ⟨_, #[],0,_,[],e,⟨rfl,rfl,rfl⟩,rfl,(fun e b=>by simp at b),.nil,.refl _,rfl,rfl,fun z=>absurd rfl z⟩
section
variable{prog:Program} {w:World} {A:Around} {E:Value->Shared->Prop} {s:Shared}
theorem Ks {l:Addr} {items:Array Value} {ss:List Str} {Q:Value->Shared->Prop} (T:A.handled=none) (hl:s.heap.IsList l items) (U:StrsAre items.toList ss) (nd:ss.Nodup) (y:ss.length<1000)
  (h:∀(h':Heap) (tk:Nat),SS prog w h' s.heap.objs.size ss->(∀b o,b<s.heap.objs.size->s.heap.get? b=some o->h'.get? b=some o)->Q (.ref s.heap.objs.size) {s with heap:=h',toks:=tk}):
  wpAny (model prog w) A (call (.type "set") [.ref l]) Q E s:=by
 obtain⟨c,tl,J⟩:=PySem.F.called_set.mro
 have z:=PySem.F.called_set.made
 have K:=PySem.F.called_set.sub
 refine wpAny_call (codeAny_of_tree ?_)
 show wpAny _ _ (callAny (.type "set") _) _ _ _
 refine wpAny_pure ⟨Code.quiet_builtin _ (by decide+kernel),codeAny_builtin PySem.F.entry_type_call ?_⟩
 rw[Around.under_plain (weight_type_call_type "set" [.ref l] []) rfl]
 have h1:=PySem.F.called_set.notType
 have h2:=PySem.F.called_set.canCreate
 have V:=PySem.F.typeCall_set_1 (.ref l)
 repeat (any_goals (first|assumption|wp_step))
 refine codeAny_mono (YZ (.ref l) (E:=E) (Q₁:=fun m f=>m=.ref s.heap.objs.size/\f={s with heap:=s.heap.push (Mo w)}) ⟨rfl,rfl⟩) fun r f B=>?_
 cases r with
 |error e=>exact B
 |ok W=>
  cases W with
  |ret m=>
   obtain⟨rfl,rfl⟩:=B
   have L:(s.heap.push (Mo w)).get? s.heap.objs.size=some (Mo w):=Heap.get?_push_size _ rfl
   have X:Shared.TypeIs {s with heap:=s.heap.push (Mo w)} (.ref s.heap.objs.size) "set":=⟨_,L,rfl⟩
   have Y:=PySem.F.called_set.init.lookup
   have Z:=PySem.F.called_set.init.bind (.ref s.heap.objs.size)
   repeat (any_goals (first|assumption|wp_step))
   refine codeAny_mono (codeAny_call_builtin (R:=wants (fun r g=>r=.none/\∃h' tk,g={s with heap:=h',toks:=tk}/\SS prog w h' s.heap.objs.size ss/\(∀b o,b<s.heap.objs.size->s.heap.get? b=some o->h'.get? b=some o)) E) PySem.F.called_set.init.plain PySem.F.entry_set_init (check_set_init_1 X ?_)) fun n g a=>?_
   ·obtain⟨ol,p,q,M,t⟩:=hl
    obtain⟨N,i,C,d⟩:=ol
    simp only at q t
    subst q;subst t
    have u:(s.heap.push (Mo w)).get? l=some {cls:=.type "list",dict:=i,data:=.seq items M,slots:=d}:=Heap.get?_push_of_some _ p
    have O:=PySem.F.sub_list_set
    have P:=PySem.F.sub_list_frozenset
    have YB:(Value.type "list"==Value.type "dict")=false:=by decide
    have v:(s.heap.push (Mo w)).IsList l items:=⟨_,u,rfl,M,rfl⟩
    unfold Builtin.«set.__init__» noKeywords Builtin.Frozenset.updateFrom
    generalize D:pyIter=PI
    wp_walk
    subst D
    refine wpAny_pyIter_list v ?_
    refine wpAny_bind (wpAny_runValue ?_)
    have x:l<s.heap.objs.size:=Heap.lt_size p
    have j:(s.heap.push (Mo w)).objs.size=s.heap.objs.size+1:=Heap.size_push ..
    refine WG (l:=l) (I:=(s.heap.push (Mo w)).objs.size) (S:=s.heap.objs.size) (by simp[T]) (by rw[j];exact Nat.ne_of_lt (Nat.lt_succ_of_lt x)) (by rw[j];exact Nat.ne_of_lt (Nat.lt_succ_self _)) (Nat.ne_of_gt x) U nd y (ss.length-0) 0 _ rfl (Nat.zero_le _)
     ⟨_,Heap.get?_push_size _ rfl,rfl,rfl⟩ (v.push _) (SS.fresh (Heap.get?_push_of_some _ L)) fun h' tk S' kp=>?_
    show wpAny _ _ _ _ _ _
    refine wpAny_pure ?_
    show wpAny _ _ (ret Value.none) _ _ _
    refine wpAny_pure ⟨rfl,h',tk,rfl,S',fun b o y e=>kp b o (Nat.ne_of_lt y) (by rw[j];exact Nat.ne_of_lt (Nat.lt_succ_of_lt y)) (Heap.get?_push_of_some _ (Heap.get?_push_of_some _ e))⟩
   ·cases n with
    |error e=>exact a
    |ok k=>
     cases k with
     |ret r=>
      obtain⟨rfl,h',tk,rfl,G,H⟩:=a
      repeat (any_goals (first|assumption|wp_step))
      exact h _ _ G H
     |_=>exact a.elim
  |_=>exact B.elim
end
theorem Io:Slot "set_iterator" "__next__" "set_iterator.__next__":=
 .of (owner:="set_iterator") (n:="__next__") (by rw[typeLookup_type,builtinLookup_eq_fast];kernel_rfl) (by decide+kernel) (by decide+kernel) (by decide+kernel) (by first|exact .inl (by decide+kernel)|exact .inr (by decide+kernel)) (by rw[isSubtype_type];kernel_rfl)
theorem WH:entryFor table "set_iterator.__next__"=some Builtin.«set_iterator.__next__»:=entryFor_of_tree (by kernel_rfl)
theorem Oi:Manifest.owners.lookup (String.ofList ['r','o','t','a','r','e','t','i','_','t','e','s'].reverse)=some Manifest.sig_set_iterator:=by kernel_rfl
theorem Ya (a:Value):argsOk "set_iterator.__next__" ⟨[a],[]⟩:=by
 unfold argsOk;rw[signature?_of (id:="set_iterator.__next__") (n:=['_','_','t','x','e','n','_','_']) (o:=['r','o','t','a','r','e','t','i','_','t','e','s']) (by kernel_rfl) Oi];kernel_rfl
theorem Js:entryFor table "set.__iter__"=some Builtin.«frozenset.__iter__»:=entryFor_alias (id':="frozenset.__iter__") (by kernel_rfl) rfl (by decide+kernel) (by kernel_rfl)
abbrev Yb (h:Heap) (b a:Addr) (f:Value) (i n ep:Nat):Prop:=h.get? b=some {cls:=.type "set_iterator",dict:=none,data:=.fields #[f,rawInt (i:Int),.ref a,rawInt (n:Int),rawInt (ep:Int)],slots:= #[]}
theorem Jt {a:Type}:∀{xs:List a} {i:Nat} (h:i<xs.length),(xs[i]::xs.eraseIdx i).Perm xs
 |x::xs,0,_=>.refl _
 |x::xs,i+1,h=>by
  have h':i<xs.length:=by simpa using h
  exact(List.Perm.swap x _ _).trans ((Jt h').cons x)
section
variable{prog:Program} {w:World} {A:Around} {E:Value->Shared->Prop} {s:Shared}
theorem Qn {a:Source} {n:Nat} {Q:Nat->Shared->Prop} (b:n≠0) (h:∀i c,i<n->Q i {s with drawn:=c}):wpAny (model prog w) A (choose a n) Q E s:=fun Γ p _=>by
 show Sem.wp _ _ (.choose a n .pure) _ _ p s
 rw[Sem.wp_choose]
 exact⟨b,h _ _ (Nat.mod_lt _ (Nat.pos_of_ne_zero b))⟩
theorem La {d:Type}:∀(n:Nat) (xs:List d) (s:Shared) {Q:List d->Shared->Prop},xs.length=n->(∀ys e,ys.Perm xs->Q ys {s with drawn:=e})->wpAny (model prog w) A (drawOrder n xs) Q E s
 |0,xs,s,Q,a,h=>by
  have:xs=[]:=List.eq_nil_of_length_eq_zero a
  subst this
  unfold drawOrder
  exact wpAny_pure (h [] s.drawn (.refl _))
 |n+1,[],s,Q,a,h=>by simp at a
 |n+1,x::xs,s,Q,a,h=>by
  unfold drawOrder
  refine wpAny_bind (Qn (by simp) fun i e b=>?_)
  rw[ADr b]
  have f:((x::xs)[i]::(x::xs).eraseIdx i).Perm (x::xs):=Jt b
  refine wpAny_bind (La n _ _ (by rw[List.length_eraseIdx_of_lt b];simpa using a) fun ys c g=>wpAny_pure (h _ c ((g.cons _).trans f)))
end
theorem Rt {b:Type} (f:Nat->Nat):∀(n k:Nat) (xs:List b) (out:Array b),xs.length=n->(pickOrder.go f n k xs out).toList.Perm (out.toList++xs)
 |0,k,xs,out,hl=>by
  have:xs=[]:=List.eq_nil_of_length_eq_zero hl
  subst this
  unfold pickOrder.go
  simp
 |n+1,k,xs,out,hl=>by
  unfold pickOrder.go
  have a:f k % xs.length<xs.length:=Nat.mod_lt _ (by lia)
  rw[ADr a]
  have c:(xs[f k % xs.length]::xs.eraseIdx (f k % xs.length)).Perm xs:=Jt a
  have d:=Rt f n (k+1) (xs.eraseIdx (f k % xs.length)) (out.push xs[f k % xs.length]) (by rw[List.length_eraseIdx_of_lt a];lia)
  refine d.trans ?_
  rw[Array.toList_push,List.append_assoc]
  exact List.Perm.append_left _ c
theorem Tg {a:Type} (f:Nat->Nat) (xs:Array a):(pickOrder f xs).toList.Perm xs.toList:=by
 unfold pickOrder
 have:=Rt f xs.size 0 xs.toList #[] (by simp)
 simpa using this
inductive Mp (w:World) (h:Heap) (a:Addr) (es:Array (Int×Value)) (ep:Nat) (t:SetTable) (tps:List Addr) (i:Nat):Value->List Value->Prop
 |text (b:Rq w=true):Mp w h a es ep t tps i (rawInt 0) ((pickOrder (w.params.setOrder a ep) es).toList.map (·.2))
 |drawn {c:Addr} {ps:List Nat} (b:Rq w=false) (d:c∈tps) (e:h.get? c=some {cls:=.type "tuple",data:=.seq (ps.map fun(i:Nat)=>rawInt (i:Int)).toArray}) (f:ps.Perm (List.range es.size)):Mp w h a es ep t tps i (.ref c) (ps.map fun j=>(es.getD j (0,.none)).2)
 |RQ (b:Rq w=false) (z:es.size<=1):Mp w h a es ep t tps i (rawInt (if i=0 then 0 else((t.place.getD 0 0+1:Nat):Int))) (es.toList.map (·.2))
theorem Qo (xs:Array Nat) (h:xs.size<=1):SetTable.below xs 0=0:=by
 obtain⟨l⟩:=xs
 rcases l with _|⟨a,_|⟨b,r⟩⟩
 ·rfl
 ·show SetTable.below.go #[a] 0 1 0 1=0
  simp[SetTable.below.go]
 ·simp at h
theorem Th (j:Nat):SetTable.below #[j] (j+1)=1:=by
 show SetTable.below.go #[j] (j+1) 1 0 1=1
 simp[SetTable.below.go]
section
variable{prog:Program} {w:World} {A:Around} {E:Value->Shared->Prop} {s:Shared}
structure Yc (prog:Program) (w:World) (h:Heap) (it a:Addr) (o:Obj) (es:Array (Int×Value)) (ep:Nat) (t:SetTable) (tps:List Addr) (os:List Value) (i:Nat):Prop where
 at_:h.get? a=some o
 da:o.data=.set es ep t
 fi:t.fits es.size=true
 le:t.led= !Rq w
 f:∃f,Yb h it a f i es.size ep/\Mp w h a es ep t tps i f os
theorem Yc.keep {h h':Heap} {c a:Addr} {o:Obj} {es:Array (Int×Value)} {ep:Nat} {t:SetTable} {tps:List Addr} {os:List Value} {i:Nat} (x:Yc prog w h c a o es ep t tps os i) (k:∀b∈c::a::tps,∀o,h.get? b=some o->h'.get? b=some o):Yc prog w h' c a o es ep t tps os i:=by
 obtain⟨f,e,g⟩:=x.f
 refine⟨k _ (by simp) _ x.at_,x.da,x.fi,x.le,f,k _ (by simp) _ e,?_⟩
 cases g with
 |text b=>exact .text b
 |drawn b d j l=>exact .drawn b d (k _ (by simp[d]) _ j) l
 |RQ b z=>exact .RQ b z
end
section
variable{prog:Program} {w:World} {A:Around} {E:Value->Shared->Prop} {s:Shared}
theorem Fy {Q:Bool->Shared->Prop} (h:Q (Rq w) s):wpAny (model prog w) A setsByText Q E s:=by
 unfold setsByText
 exact wpAny_bind (wpAny_askSetting (wpAny_pure h))
theorem Oj {d:Addr} {Q:Option Value->Shared->Prop} {a:Addr} {f:Value} {i n ep:Nat} (k:Yb s.heap d a f i n ep)
  (g:wpAny (model prog w) A.in1 (Builtin.«set_iterator.__next__» ⟨[.ref d],[]⟩) (fun fin c=>∃v,fin=.done (.ret v)/\Q (some v) c) (fun e c=>∃o,e=.ref o/\c.TypeIs (.ref o) "StopIteration"/\Q none c) s):wpAny (model prog w) A (pyNext (.ref d)) Q E s:=by
 have j:s.TypeIs (.ref d) "set_iterator":=⟨_,k,rfl⟩
 unfold pyNext
 refine wpAny_bind (wpAny_attempt (wpAny_callSpecial?_slot (name:=Str.ofString "__next__") j Io (wpAny_call_entry Io j WH ?_ (Ya _))))
 refine wpAny_mono g (fun fin c h=>?_) fun e c h=>?_
 ·obtain⟨v,rfl,q⟩:=h
  exact⟨v,rfl,wpAny_pure q⟩
 ·obtain⟨o,rfl,l,q⟩:=h
  exact wpAny_bind (wpAny_isInstance (T:="StopIteration") (b:=true) l isSubtype_stop (wpAny_pure q))
theorem Ol {b a:Addr} {o:Obj} {es:Array (Int×Value)} {ep i:Nat} {t:SetTable} {f:Value} {R:Fin->Shared->Prop} {c:Value->Shared->Prop} (d:Yb s.heap b a f i es.size ep) (e:s.heap.get? a=some o) (h:o.data=.set es ep t) (j:t.fits es.size=true)
  (g:wpAny (model prog w) A (do
   if let .int slot _:=f then
    match<-setNext a slot.toNat i ep with
    |some (x,next)=>
     setField (.ref b) 0 (rawInt next)
     setField (.ref b) 1 (rawInt ((i:Int)+1))
     ret x
    |none=>setField (.ref b) 2 .none;raiseNew (<-newExc (.type "StopIteration") [])
   else
    let some places<-seqItems? f|unsupported "internal:set_iterator"
    match places[i]? with
    |some (.int place _)=>
     let x<-setNextDrawn a place.toNat ep
     setField (.ref b) 1 (rawInt ((i:Int)+1))
     ret x
    |some _=>unsupported "internal:set_iterator"
    |none=>setField (.ref b) 0 (rawInt 0);setField (.ref b) 2 .none;raiseNew (<-newExc (.type "StopIteration") [])) R c s):wpAny (model prog w) A (Builtin.«set_iterator.__next__» ⟨[.ref b],[]⟩) R c s:=by
 unfold Builtin.«set_iterator.__next__»
 refine wpAny_bind (m:=slotArgs "__next__" 0 _) (wpAny_pure ?_)
 refine wpAny_bind (wpAny_fieldsOf d rfl ?_)
 show wpAny _ _ (setEntries a>>=_) _ _ _
 refine wpAny_bind (wpAny_setEntries_of e h j ?_)
 show wpAny _ _ (if((es.size:Int) !=(es.size:Int))=true then _ else _) _ _ _
 rw[if_neg (by simp)]
 refine g
end
section
variable{prog:Program} {w:World} {A:Around} {E:Value->Shared->Prop} {s:Shared}
theorem WI {R:Fin->Shared->Prop} {c:Value->Shared->Prop} (d:A.handled=none) (h:∀h' o,(∀b u,s.heap.get? b=some u->h'.get? b=some u)->Shared.TypeIs {s with heap:=h'} (.ref o) "StopIteration"->c (.ref o) {s with heap:=h'}):
  wpAny (model prog w) A (do raiseNew (<-newExc (.type "StopIteration") [])) R c s:=by
 refine wpAny_bind ?_
 simp only[newExc,newTuple]
 refine wpAny_bind (wpAny_newObj_type ?_ (by size_fits))
 refine wpAny_bind (m:=firstArgMember _ _) (wpAny_of_eq (a:=Value.none) (by first|rfl|(simp only[firstArgMember];rfl)) ?_)
 refine wpAny_newObj_type ?_ (by size_fits)
 simp only[raiseNew]
 refine wpAny_bind (wpAny_handled ?_)
 rw[d]
 refine wpAny_bind (wpAny_pure (wpAny_throw ?_))
 exact h _ _ (fun b u e=>Heap.get?_push_of_some _ (Heap.get?_push_of_some _ e)) ⟨_,Heap.get?_push_size _ rfl,rfl⟩
theorem Dg {a:Addr} {o:Obj} {es:Array (Int×Value)} {ep i:Nat} {t:SetTable} {tps:List Addr} {os:List Value} {sl:Int} {Q:Option (Value×Nat)->Shared->Prop} (l:s.heap.get? a=some o) (m:o.data=.set es ep t) (f:t.fits es.size=true) (hl:t.led= !Rq w) (hw:Mp w s.heap a es ep t tps i (rawInt sl) os)
  (g:os[i]?=none->Q none s) (n:∀v (nx:Nat),os[i]?=some v->Mp w s.heap a es ep t tps (i+1) (rawInt (nx:Int)) os->Q (some (v,nx)) s):wpAny (model prog w) A (setNext a sl.toNat i ep) Q E s:=by
 unfold setNext
 refine wpAny_bind (wpAny_setState_of l m f ?_)
 dsimp only
 refine wpAny_bind (Fy ?_)
 generalize c:rawInt sl=first at hw
 cases hw with
 |text b=>
  have u:sl=0:=by injection c
  subst u
  rw[if_pos b,if_neg (by simp)]
  refine wpAny_bind ?_
  unfold setWalk
  refine wpAny_bind (wpAny_setState_of l m f ?_)
  dsimp only
  refine wpAny_bind (Fy ?_)
  rw[if_pos b]
  refine wpAny_bind (wpAny_askSetting (wpAny_pure (wpAny_pure ?_)))
  show Q (((pickOrder (w.params.setOrder a ep) es)[i]?).map fun e=>(e.2,Int.toNat 0)) s
  rw[List.getElem?_map,Array.getElem?_toList]at g
  cases p:(pickOrder (w.params.setOrder a ep) es)[i]? with
  |none=>exact g (by rw[p];rfl)
  |some e=>exact n e.2 0 (by rw[List.getElem?_map,Array.getElem?_toList,p];rfl) (.text b)
 |drawn b F G H=>exact absurd c (by simp[rawInt])
 |RQ b z=>
  rw[if_neg (by rw[b];simp)]
  refine wpAny_ite_split (fun B=>absurd B ?_) (fun _=>?_)
  ·show¬(!t.plain&&decide (es.size>1))=true
   simp;lia
  refine wpAny_bind ?_
  show wpAny _ _ (if(!t.led&& !es.isEmpty)=true then _ else pure ()) _ _ _
  rw[hl,b,if_neg (by simp)]
  refine wpAny_pure ?_
  have k:sl=(if i=0 then 0 else((t.place.getD 0 0+1:Nat):Int)):=by injection c
  have d:t.place.size=es.size:=by
   simp only[SetTable.fits,Bool.and_eq_true,beq_iff_eq]at f
   exact f.1
  show wpAny _ _ (pure (match es[SetTable.below t.place sl.toNat]?,t.place[SetTable.below t.place sl.toNat]? with|some (_,x),some j=>some (x,j+1)|_,_=>none)) _ _ _
  refine wpAny_pure ?_
  generalize C:t.place=P at d k⊢
  obtain⟨D⟩:=es
  obtain⟨pl⟩:=P
  rcases D with _|⟨x,_|⟨y,r⟩⟩
  ·exact g (by simp)
  ·rcases pl with _|⟨j,_|⟨I,r⟩⟩
   ·simp at d
   ·have J:(#[j]:Array Nat).getD 0 0=j:=rfl
    by_cases q:i=0
    ·subst q
     have:sl=0:=by rw[k];simp
     subst this
     rw[show Int.toNat 0=0 from rfl,Qo _ (by simp)]
     refine n x.2 (j+1) (by simp) ?_
     have:=Mp.RQ (w:=w) (h:=s.heap) (a:=a) (es:= #[x]) (ep:=ep) (t:=t) (tps:=tps) (i:=0+1) b (by simp)
     rw[C]at this
     simpa using this
    ·have:sl=((j+1:Nat):Int):=by rw[k,if_neg q];rfl
     subst this
     rw[Int.toNat_natCast,Th]
     refine g ?_
     rw[List.getElem?_eq_none]
     simp
     lia
   ·simp at d
  ·simp at z
theorem Yd {d a:Addr} {o:Obj} {es:Array (Int×Value)} {ep i:Nat} {t:SetTable} {tps:List Addr} {os:List Value} {v:Value} {Q:Option Value->Shared->Prop} (x:Yc prog w s.heap d a o es ep t tps os i) (q:d∉a::tps) (k:os[i]?=some v)
  (h:∀h',Yc prog w h' d a o es ep t tps os (i+1)->(∀b u,b≠d->s.heap.get? b=some u->h'.get? b=some u)->Q (some v) {s with heap:=h'}):wpAny (model prog w) A (pyNext (.ref d)) Q E s:=by
 obtain⟨f,p,hw⟩:=x.f
 have P:a≠d:=fun z=>q (by rw[z];exact List.mem_cons_self)
 refine Oj p (Ol p x.at_ x.da x.fi ?_)
 have fin:∀{r l:Heap} {g:Value},Heap.SameBut d s.heap r->Heap.SameBut d r l->Yb l d a g (i+1) es.size ep->Mp w s.heap a es ep t tps (i+1) g os->∃B,Fin.done (.ret v)=.done (.ret B)/\Q (some B) {s with heap:=l}:=fun{r l g} y n R S=>by
  have H:∀b u,b≠d->s.heap.get? b=some u->l.get? b=some u:=fun b u N e=>by rw[n.2 b N,y.2 b N];exact e
  refine⟨v,rfl,h l ⟨H a _ P x.at_,x.da,x.fi,x.le,g,R,?_⟩ H⟩
  cases S with
  |text b=>exact .text b
  |drawn b C D F=>exact .drawn b C (H _ _ (fun z=>q (by rw[<-z];exact List.mem_cons_of_mem _ C)) D) F
  |RQ b z=>exact .RQ b z
 have I:((i:Int)+1)=((i+1:Nat):Int):=by simp
 generalize W:f=X at p hw⊢
 cases hw with
 |text b=>
  show wpAny _ _ (setNext a (Int.toNat 0) i ep>>=_) _ _ _
  refine wpAny_bind (Dg (tps:=tps) (sl:=0) x.at_ x.da x.fi x.le (.text b) (fun z=>by rw[k]at z;cases z) fun B T c J=>?_)
  rw[k]at c
  cases c
  refine wpAny_bind (wpAny_setField_rec p (by simp) fun r K y=>wpAny_bind (wpAny_setField_rec K (by simp) fun l m n=>wpAny_pure ?_))
  rw[I]at m
  exact fin y n m J
 |@drawn U L b C D F=>
  show wpAny _ _ (seqItems? (.ref U)>>=_) _ _ _
  refine wpAny_bind (wpAny_seqItems D rfl ?_)
  rw[List.getElem?_map]at k
  cases G:L[i]? with
  |none=>rw[G]at k;cases k
  |some j=>
   rw[G]at k
   have O:j<es.size:=by
    have:=F.mem_iff.mp (ADu G)
    exact List.mem_range.mp this
   have M:((L.map fun(i:Nat)=>rawInt (i:Int)).toArray)[i]?=some (rawInt (j:Int)):=by simp[G]
   show wpAny _ _ (match((L.map fun(i:Nat)=>rawInt (i:Int)).toArray)[i]? with|some (.int place _)=>_|some _=>_|none=>_) _ _ _
   rw[M]
   show wpAny _ _ (setNextDrawn a (Int.toNat (j:Int)) ep>>=_) _ _ _
   refine wpAny_bind ?_
   unfold setNextDrawn
   refine wpAny_bind (wpAny_setState_of x.at_ x.da x.fi ?_)
   dsimp only
   rw[if_neg (by simp),Int.toNat_natCast,Array.getElem?_eq_getElem O]
   refine wpAny_pure ?_
   refine wpAny_bind (wpAny_setField_rec p (by simp) fun l m n=>wpAny_pure ?_)
   rw[I]at m
   have V:v=es[j].2:=by
    have:=ADt k
    rw[<-this]
    simp[Array.getD,O]
   subst V
   exact fin (Heap.SameBut.refl _ _) n m (.drawn b C D F)
 |RQ b z=>
  show wpAny _ _ (setNext a (Int.toNat _) i ep>>=_) _ _ _
  refine wpAny_bind (Dg (tps:=tps) x.at_ x.da x.fi x.le (.RQ b z) (fun z=>by rw[k]at z;cases z) fun B T c J=>?_)
  rw[k]at c
  cases c
  refine wpAny_bind (wpAny_setField_rec p (by simp) fun r K y=>wpAny_bind (wpAny_setField_rec K (by simp) fun l m n=>wpAny_pure ?_))
  rw[I]at m
  exact fin y n m J
theorem Ye {m a:Addr} {o:Obj} {es:Array (Int×Value)} {ep i:Nat} {t:SetTable} {tps:List Addr} {os:List Value} {Q:Option Value->Shared->Prop} (D:A.handled=none) (x:Yc prog w s.heap m a o es ep t tps os i) (k:os[i]?=none)
  (h:∀h',(∀b u,b≠m->s.heap.get? b=some u->h'.get? b=some u)->Q none {s with heap:=h'}):wpAny (model prog w) A (pyNext (.ref m)) Q E s:=by
 obtain⟨f,g,hw⟩:=x.f
 refine Oj g (Ol g x.at_ x.da x.fi ?_)
 have fin:∀{q:Heap},(∀b u,b≠m->s.heap.get? b=some u->q.get? b=some u)->wpAny (model prog w) A.in1 (do raiseNew (<-newExc (.type "StopIteration") [])) (fun(fin:Fin) n=>∃v,fin=.done (.ret v)/\Q (some v) n) (fun e n=>∃o,e=.ref o/\n.TypeIs (.ref o) "StopIteration"/\Q none n) {s with heap:=q}:=fun F=>
  WI D fun G H k3 I=>⟨H,rfl,I,h G fun b u d e=>k3 b u (F b u d e)⟩
 generalize P:f=R at g hw⊢
 cases hw with
 |text b=>
  show wpAny _ _ (setNext a (Int.toNat 0) i ep>>=_) _ _ _
  refine wpAny_bind (Dg (tps:=tps) (sl:=0) x.at_ x.da x.fi x.le (.text b) (fun _=>?_) fun J K c L=>by rw[k]at c;cases c)
  exact wpAny_bind (wpAny_setField_rec g (by simp) fun C r l=>fin fun b u d e=>by rw[l.2 b d];exact e)
 |@drawn M p b S N T=>
  show wpAny _ _ (seqItems? (.ref M)>>=_) _ _ _
  refine wpAny_bind (wpAny_seqItems N rfl ?_)
  have y:p[i]?=none:=by
   rw[List.getElem?_map]at k
   cases y:p[i]? with
   |none=>rfl
   |some j=>rw[y]at k;cases k
  have B:((p.map fun(i:Nat)=>rawInt (i:Int)).toArray)[i]?=none:=by simp[y]
  show wpAny _ _ (match((p.map fun(i:Nat)=>rawInt (i:Int)).toArray)[i]? with|some (.int place _)=>_|some _=>_|none=>_) _ _ _
  rw[B]
  exact wpAny_bind (wpAny_setField_rec g (by simp) fun C r l=>wpAny_bind (wpAny_setField_rec r (by simp) fun q U O=>fin fun b u d e=>by rw[O.2 b d,l.2 b d];exact e))
 |RQ b z=>
  show wpAny _ _ (setNext a (Int.toNat _) i ep>>=_) _ _ _
  refine wpAny_bind (Dg (tps:=tps) x.at_ x.da x.fi x.le (.RQ b z) (fun _=>?_) fun J K c L=>by rw[k]at c;cases c)
  exact wpAny_bind (wpAny_setField_rec g (by simp) fun C r l=>fin fun b u d e=>by rw[l.2 b d];exact e)
end
theorem Gn:Slot "set_iterator" "__iter__" "set_iterator.__iter__":=
 .of (owner:="set_iterator") (n:="__iter__") (by rw[typeLookup_type,builtinLookup_eq_fast];kernel_rfl) (by decide+kernel) (by decide+kernel) (by decide+kernel) (by first|exact .inl (by decide+kernel)|exact .inr (by decide+kernel)) (by rw[isSubtype_type];kernel_rfl)
theorem Kt:entryFor table "set_iterator.__iter__"=some Builtin.«dict_keyiterator.__iter__»:=entryFor_alias (id':="dict_keyiterator.__iter__") (by kernel_rfl) (by first|rfl|decide+kernel) (by decide+kernel) (by kernel_rfl)
theorem Mq (a:Value):argsOk "set_iterator.__iter__" ⟨[a],[]⟩:=by
 unfold argsOk;rw[signature?_of (id:="set_iterator.__iter__") (n:=['_','_','r','e','t','i','_','_']) (o:=['r','o','t','a','r','e','t','i','_','t','e','s']) (by kernel_rfl) Oi];kernel_rfl
theorem WJ {prog:Program} {w:World} {A:Around} {E:Value->Shared->Prop} {s:Shared} {r:Addr} {Q:Bool->Shared->Prop} (c:s.TypeIs (.ref r) "set") (h:Q false s):wpAny (model prog w) A (Builtin.List.listLengthHint (.ref r)) Q E s:=by
 unfold Builtin.List.listLengthHint
 refine wpAny_bind (wpAny_specialOf c PySem.F.slot_set_len.lookup ?_)
 generalize Dk:("set.__len__":String)=d
 wp_delta
 rw[show splitId d=some ("set","__len__")from by subst Dk;decide+kernel]
 subst Dk
 refine wpAny_bind (wpAny_isInstance (T:="set") (b:=true) c (by rw[isSubtype_type];kernel_rfl) ?_)
 refine wpAny_ite_split (fun a=>absurd a (by decide)) (fun _=>wpAny_ite_split (fun _=>wpAny_bind (wpAny_typeOf c (wpAny_pure h))) (fun a=>absurd (by decide+kernel) a))
section
variable{prog:Program} {w:World} {A:Around} {E:Value->Shared->Prop} {s:Shared}
theorem Ti (hh:A.handled=none) {it a:Addr} {o:Obj} {es:Array (Int×Value)} {ep:Nat} {t:SetTable} {tps:List Addr} {os:List Value} (YB:it∉a::tps):Walks prog w A it (it::a::tps) [it] os.length (fun i v=>os[i]?=some v) (fun i h=>Yc prog w h it a o es ep t tps os i)where
 sub:=fun b hb=>by rw[List.mem_singleton.mp hb];exact List.mem_cons_self
 frame:=fun i h h' x k=>x.keep k
 item:=fun i s Q E hi x hQ=>by
  refine Yd x YB (ADr hi) fun h' x' kp=>?_
  have:=hQ os[i] h' s.toks (ADr hi) x' fun b u hb e=>kp b u (by simpa using hb) e
  exact this
 done:=fun s Q E x hQ=>by
  refine Ye hh x (List.getElem?_eq_none (Nat.le_refl _)) fun h' kp=>?_
  exact hQ h' s.toks fun b u hb e=>kp b u (by simpa using hb) e
 self:=fun i s Q E x hQ=>by
  obtain⟨f,hI,_⟩:=x.f
  have hT:s.TypeIs (.ref it) "set_iterator":=⟨_,hI,rfl⟩
  refine wpAny_pyIter_slot hT Gn (wpAny_call_entry Gn hT Kt ?_ (Mq _))
  exact wpAny_pure ⟨_,rfl,"set_iterator",_,hT,Io.lookup,hQ⟩
theorem WK {a:Addr} {ss us:List Str} {o:Obj} {es:Array (Int×Value)} {ep:Nat} {t:SetTable} {Q:Value->Shared->Prop} (Y:gN prog w s.heap a ss o es ep t us) (hz:ss.length<1000)
  (h:∀h' k tps os g,(∀b u,s.heap.get? b=some u->h'.get? b=some u)->(∀b∈tps,s.heap.objs.size<=b/\b<k)->s.heap.objs.size<=k->k<h'.objs.size->Yc prog w h' k a o es ep t tps os 0->os.Perm (es.toList.map (·.2))->Q (.ref k) {s with heap:=h',drawn:=g}):
  wpAny (model prog w) A (pyIter (.ref a)) Q E s:=by
 have B:s.TypeIs (.ref a) "set":=⟨_,Y.at_,Y.ex.1⟩
 have n:=Y.size
 refine wpAny_pyIter_slot B PySem.F.slot_set_iter (wpAny_call_entry PySem.F.slot_set_iter B Js ?_ (PySem.F.args_set_iter_1 _))
 unfold Builtin.«frozenset.__iter__»
 refine wpAny_bind (m:=Builtin.Frozenset.slot0 "__iter__" _) (wpAny_pure ?_)
 refine wpAny_bind ?_
 unfold Builtin.Frozenset.sizeOf
 refine wpAny_bind (wpAny_setEntries_of Y.at_ Y.da Y.fi (wpAny_pure ?_))
 refine wpAny_bind ?_
 unfold setDrawn
 refine wpAny_bind (wpAny_setState_of Y.at_ Y.da Y.fi ?_)
 dsimp only
 refine wpAny_bind (Fy (wpAny_pure ?_))
 have ends:∀{l:Shared} (f:Value) (tps:List Addr) (os:List Value),(∃g d,l={s with heap:=d,drawn:=g}/\(∀b u,s.heap.get? b=some u->d.get? b=some u)/\(∀b∈tps,s.heap.objs.size<=b/\b<d.objs.size)/\s.heap.objs.size<=d.objs.size)->(∀h',(∀b u,l.heap.get? b=some u->h'.get? b=some u)->Mp w h' a es ep t tps 0 f os)->os.Perm (es.toList.map (·.2))->
   wpAny (model prog w) A.in1 (do ret (<-newFields "set_iterator" [f,rawInt 0,.ref a,rawInt es.size,rawInt (<-setEpoch a)])) (fun(fin:Fin) C=>∃v,fin=.done (.ret v)/\∃T r,C.TypeIs v T/\typeLookup (.type T) "__next__"=pure (some r)/\Q v C) E l:=fun{l} f tps os ⟨g,d,G,k1,H,l1⟩ I J=>by
  subst G
  refine wpAny_bind (wpAny_setEpoch_of (k1 _ _ Y.at_) Y.da Y.fi ?_)
  refine wpAny_bind (wpAny_newObj_type ?_ (by size_fits))
  have p:(d.push {cls:=.type "set_iterator",data:=.fields #[f,rawInt 0,.ref a,rawInt es.size,rawInt ep]}).get? d.objs.size=some {cls:=.type "set_iterator",data:=.fields #[f,rawInt 0,.ref a,rawInt es.size,rawInt ep]}:=Heap.get?_push_size _ rfl
  refine wpAny_pure ⟨_,rfl,"set_iterator",_,⟨_,p,rfl⟩,Io.lookup,?_⟩
  refine h _ _ tps os g (fun b u e=>Heap.get?_push_of_some _ (k1 b u e)) H l1 (Heap.lt_size p) ⟨Heap.get?_push_of_some _ (k1 _ _ Y.at_),Y.da,Y.fi,Y.le,f,p,I _ fun b u e=>Heap.get?_push_of_some _ e⟩ J
 have D:∀b u,s.heap.get? b=some u->s.heap.get? b=some u:=fun b u e=>e
 refine wpAny_ite_split (fun hz=>?_) (fun hz=>?_)
 ·have c:Rq w=false:=by
   cases c:Rq w with
   |false=>rfl
   |true=>rw[c]at hz;simp at hz
  refine wpAny_bind (La es.size (List.range es.size) s (by simp) fun q g x=>?_)
  have K:q.length=es.size:=by rw[x.length_eq,List.length_range]
  refine wpAny_bind (wpAny_newTuple (items:=q.map fun(i:Nat)=>rawInt (i:Int)) ?_ (by rw[List.length_map];exact Ab (by lia)))
  refine ends (.ref s.heap.objs.size) [s.heap.objs.size] (q.map fun j=>(es.getD j (0,.none)).2) ⟨g,_,rfl,fun b u e=>Heap.get?_push_of_some _ e,fun b c=>?_,?_⟩ (fun h' y=>.drawn c List.mem_cons_self (y _ _ (Heap.get?_push_size _ rfl)) x) ?_
  ·rw[List.mem_singleton.mp c]
   exact⟨Nat.le_refl _,by show _<(s.heap.push _).objs.size;rw[Heap.size_push];exact Nat.lt_succ_self _⟩
  ·show _<=(s.heap.push _).objs.size;rw[Heap.size_push];exact Nat.le_succ _
  ·refine(x.map _).trans ?_
   have e:(List.range es.size).map (fun j=>(es.getD j (0,.none)).2)=es.toList.map (·.2):=by
    refine List.ext_getElem (by simp) fun i d N=>?_
    have L:i<es.size:=by simpa using d
    simp[Array.getD,L]
   rw[e]
 ·refine wpAny_bind (wpAny_pure ?_)
  cases c:Rq w with
  |true=>exact ends (rawInt 0) [] _ ⟨s.drawn,s.heap,rfl,D,(fun b c=>by simp at c),Nat.le_refl _⟩ (fun h' y=>.text c) ((Tg _ es).map _)
  |false=>
   have z1:es.size<=1:=by
    rw[c]at hz
    have hz:¬(!false&&(!t.plain&&decide (es.size>1)))=true:=hz
    by_cases z:es.size=0
    ·lia
    ·have M:=Y.pl (fun e=>z (by rw[n,e];rfl))
     rw[M]at hz
     simp at hz
     lia
   exact ends (rawInt 0) [] _ ⟨s.drawn,s.heap,rfl,D,(fun b c=>by simp at c),Nat.le_refl _⟩ (fun h' y=>.RQ c z1) (.refl _)
theorem Om {a:Addr} {ss:List Str} {Q:List Value->Shared->Prop} (hh:A.handled=none) (hS:SS prog w s.heap a ss) (hz:ss.length<1000)
  (h:∀h' tk M vs zs,(∀b u,s.heap.get? b=some u->h'.get? b=some u)->s.heap.objs.size<=h'.objs.size->StrsAre vs zs->zs.Perm ss->Q vs {s with heap:=h',toks:=tk,drawn:=M}):wpAny (model prog w) A (collect (.ref a)) Q E s:=by
 obtain⟨o,X,Z,t,us,Y⟩:=hS
 have O:=Y.size
 unfold collect
 refine wpAny_bind (wpAny_runValue (codeAny_builtin PySem.F.entry_proto_collect ?_))
 rw[Around.under_plainId PySem.F.plain_proto_collect _]
 show wpAny _ A.in1 (newList []>>=fun l=>again (.builtin "list.__iadd__" ⟨[l,.ref a],[]⟩)) _ _ s
 refine wpAny_bind (wpAny_newObj_type ?_)
 refine wpAny_pure ⟨plainId_quiet PySem.F.plain_list_iadd _,codeAny_builtin PySem.F.entry_list_iadd ?_⟩
 rw[Around.under_plainId PySem.F.plain_list_iadd _]
 obtain⟨B,m⟩:∃B,B=s.heap.push {cls:=.type "list",data:=.seq ([]:List Value).toArray}:=⟨_,rfl⟩
 have I:B.objs.size=s.heap.objs.size+1:=by rw[m];exact Heap.size_push ..
 have k1:∀b u,s.heap.get? b=some u->B.get? b=some u:=fun b u e=>by rw[m];exact Heap.get?_push_of_some _ e
 have P:B.get? s.heap.objs.size=some {cls:=.type "list",data:=.seq #[]}:=by rw[m];exact Heap.get?_push_size _ rfl
 rw[<-m]
 have D:a<s.heap.objs.size:=Heap.lt_size Y.at_
 have R:gN prog w B a ss o X Z t us:=⟨k1 _ _ Y.at_,Y.ex,Y.da,Y.el,Y.st,Y.pm,Y.fi,Y.le,Y.pl⟩
 show wpAny _ A.in1 (Builtin.List.listExtendWith (.ref s.heap.objs.size) (.ref a) (.ref s.heap.objs.size)) _ _ _
 unfold Builtin.List.listExtendWith
 refine wpAny_bind (wpAny_typeOf (T:="set") ⟨_,R.at_,Y.ex.1⟩ ?_)
 have n1:Builtin.List.listSameRef (.ref s.heap.objs.size) (.ref a)=false:=by simp[Builtin.List.listSameRef];exact Nat.ne_of_gt D
 rw[if_neg (by rw[n1];decide)]
 refine wpAny_bind (WK (s:={s with heap:=B}) R hz fun N J G os M k2 t2 l2 lt2 x pm=>?_)
 have n:s.heap.objs.size+1<=J:=by rw[<-I];exact l2
 have K:s.heap.objs.size∉J::a::G:=fun f=>by
  rcases List.mem_cons.mp f with e|f
  ·exact absurd n (by rw[<-e];exact Nat.not_succ_le_self _)
  rcases List.mem_cons.mp f with e|f
  ·exact absurd D (by rw[e];exact Nat.lt_irrefl _)
  ·have:=(t2 _ f).1
   exact absurd this (by show¬(B.objs.size<=_);rw[I];exact Nat.not_succ_le_self _)
 have S:J∉a::G:=fun f=>by
  rcases List.mem_cons.mp f with e|f
  ·rw[e]at n;exact absurd (Nat.lt_of_lt_of_le (Nat.lt_succ_self _) n) (Nat.not_lt.mpr (Nat.le_of_lt D))
  ·exact absurd (t2 _ f).2 (Nat.lt_irrefl _)
 refine wpAny_bind (wpAny_holding (WJ ⟨_,k2 _ _ R.at_,Y.ex.1⟩ ?_))
 have L:=k2 _ _ P
 have lo:os.length=ss.length:=by rw[pm.length_eq,List.length_map,Array.length_toList,O]
 have U:∀(H:Heap) (c1:Nat),Yc prog w H J a o X Z t G os 0->(∀b u,b≠s.heap.objs.size->N.get? b=some u->H.get? b=some u)->N.objs.size<=H.objs.size->H.get? s.heap.objs.size=some {cls:=.type "list",data:=.seq #[] c1}->
   codeAny (model prog w) A (.builtin "list.extend.loop" ⟨[.ref s.heap.objs.size,.ref J,.ref s.heap.objs.size],[]⟩) (fun r g=>∃d c,r=.ok (.ret (.ref s.heap.objs.size))/\g.heap.get? s.heap.objs.size=some {cls:=.type "list",dict:=none,data:=.seq d c,slots:= #[]}/\Q d.toList g) {s with heap:=H,drawn:=M}:=fun H c1 x3 k3 z3 p=>by
  refine codeAny_extend_loopS (Ti (A:=A.in1) hh S).toS (by rw[lo];exact Ab (by lia)) s.heap.objs.size K _ os.length 0 _ #[] c1 rfl (Nat.zero_le _) x3 p (ItemsOf.nil _) fun g i c' f v C=>⟨i,c',rfl,v,?_⟩
  rw[Moved.eq_with f]
  have V:i.toList=os:=by
   refine List.ext_getElem? fun j=>?_
   rw[Array.getElem?_toList]
   by_cases hj:j<i.size
   ·rw[Array.getElem?_eq_getElem hj]
    exact(C.2 j _ (Array.getElem?_eq_getElem hj)).symm
   ·rw[Array.getElem?_eq_none (by lia),List.getElem?_eq_none (by rw[<-C.1];lia)]
  obtain⟨zs,q1,q2⟩:=Eb pm.symm Y.st
  rw[V]
  have kk:∀b u,s.heap.get? b=some u->g.heap.get? b=some u:=fun b u e=>by
   have y:=Heap.lt_size e
   refine f.heap b u (fun k=>?_) (k3 b u (Nat.ne_of_lt y) (k2 b u (k1 b u e)))
   rcases List.mem_cons.mp k with e'|k
   ·exact absurd y (by rw[e'];exact Nat.lt_irrefl _)
   ·rw[List.mem_singleton.mp k]at y
    exact absurd (Nat.lt_of_lt_of_le (Nat.lt_succ_self _) n) (Nat.not_lt.mpr (Nat.le_of_lt y))
  exact h g.heap g.toks M os zs kk (Nat.le_of_lt (Heap.lt_size v)) q1 (q2.trans Y.pm)
 have fin:∀{g:Shared} {r:Result},(∃d c,r=.ok (.ret (.ref s.heap.objs.size))/\g.heap.get? s.heap.objs.size=some {cls:=.type "list",dict:=none,data:=.seq d c,slots:= #[]}/\Q d.toList g)->r=.ok (.ret (.ref s.heap.objs.size))/\wpAny (model prog w) A (load s.heap.objs.size>>=fun o=>match o.data with| .seq xs _=>pure xs.toList|_=>unsupported "internal:collect") Q E g:=fun⟨d,c,e,v,q⟩=>⟨e,wpAny_bind (wpAny_load v (wpAny_pure q))⟩
 refine wpAny_ite_split (fun _=>?_) (fun hz=>absurd (by decide) hz)
 refine wpAny_bind (wpAny_rule ?_)
 refine wpAny_bind ?_
 show wpAny _ _ (updateSeq s.heap.objs.size (·.push .none)>>=fun _=>updateSeq s.heap.objs.size (·.pop)) _ _ _
 refine wpAny_bind (wpAny_updateSeq L rfl ?_)
 have p:=Heap.get?_update_self (Obj.mapSeq (·.push Value.none)) L rfl
 refine wpAny_updateSeq (hz:=by seq_fits) p rfl ?_
 have W:=Heap.get?_update_self (Obj.mapSeq (·.pop)) p rfl
 have NK:∀b u,b≠s.heap.objs.size->N.get? b=some u->((N.update s.heap.objs.size (Obj.mapSeq (·.push Value.none))).update s.heap.objs.size (Obj.mapSeq (·.pop))).get? b=some u:=fun b u y e=>(Heap.get?_update_other _ _ (Ne.symm y)).trans ((Heap.get?_update_other _ _ (Ne.symm y)).trans e)
 refine wpAny_pure ⟨plainId_quiet PySem.F.plain_extend_loop _,codeAny_mono (U _ _ (x.keep fun b y o e=>NK b o (fun z=>K (by rw[<-z];exact y)) e) NK (by simp[Heap.update]) W) fun r g hr=>?_⟩
 obtain⟨e,q⟩:=fin hr
 subst e
 exact q
end
section
variable{X:Cx}
def cJ (P:Program) (w:World) (p:Addr) (ss:List Str):HO:=.ext fun h=>SS P w h p ss
inductive WL (K:ADv) (P:Program) (w:World) (xs:List V) (H:Hp) (Q:VK):Prop
 |mk (l:Addr) (ss:List Str) (a:xs=[.ref l]) (b:Ap K H l (ss.map V.str)) (c:ss.Nodup) (d:ss.length<1000) (e:∀p,H p=none->Q (.ref p) (upd H p (cJ P w p ss))):WL K P w xs H Q
theorem Tj (d:X.calm=true):BD X (.type "set") (WL X.K X.prog X.w):=by
 intro pins s z H A f Q I r h
 obtain⟨l,B,rfl,g,nd,i,q⟩:=h
 obtain⟨u,rfl,j⟩:=vals1 r
 cases j
 obtain⟨m,n,pl,_⟩:=I.list g
 refine Ks (I.ok.hd d) pl.isList (by rw[List.toList_toArray];exact Gd n) nd i fun p v c y=>?_
 have a:∀b o,s.heap.get? b=some o->p.get? b=some o:=fun b o e=>y b o (Heap.lt_size e) e
 refine⟨.ref s.heap.objs.size,_,I.laid (t':=v) a (Nat.le_refl _) ?_,rfl,q _ I.fresh⟩
 obtain⟨o,C,D,t,f,Y⟩:=id c
 exact⟨c,⟨o,Y.at_⟩,fun E F x k=>x.keep k⟩
inductive Qp (P:Program) (w:World) (xs:List V) (H:Hp) (Q:VK):Prop
 |mk (d:Addr) (ss:List Str) (c:xs=[.ref d]) (e:H d=some (cJ P w d ss)) (f:ss.length<64) (g:∀(p:Addr) (a:List Str) (b:Hp),H p=none->AG H b->b p=some (.lst (a.map V.str))->a.Perm ss->sortedS a=true->Q (.ref p) b):Qp P w xs H Q
theorem Inv.drawn {pins:List (Addr×Obj)} {σ:St} {H:Hp} {s:Shared} (I:Inv X pins σ H s) (a:Drawn):Inv X pins σ H {s with drawn:=a}:=⟨I.ok,I.os,I.bare,I.base,I.loc,I.cell,I.free,I.DS,I.pin,I.BS,I.len⟩
theorem Mr (E:X.calm=true):BD X (.builtin "sorted") (Qp X.prog X.w):=by
 intro pins s T H U W Q I r h
 obtain⟨d,n,rfl,hd,F,q⟩:=h
 obtain⟨u,rfl,G⟩:=vals1 r
 cases G
 have J:SS X.prog X.w s.heap d n:=(show Au X.prog X.w H s.heap d (cJ X.prog X.w d n)from I.BS d _ hd).1
 refine Calls.call_function_entry kind_sorted plain_sorted entry_sorted (args_sorted1 _) ?_
 unfold Builtin.«sorted»
 refine wpAny_bind (m:=checkCount "sorted" 1 1 _) (wpAny_pure (wpAny_bind (Om (A:=X.A.in1) (I.ok.hd E) J (by lia) fun c p K a L keep _ g t=>?_)))
 have M:a.length=L.length:=De g
 have N:=t.length_eq
 have v:a.length<=sizeLine:=Ab (by lia)
 refine wpAny_bind (wpAny_newList ?_ v)
 have f:(c.push {cls:=.type "list",data:=.seq a.toArray}).get? c.objs.size=some (seqObj "list" a.toArray 0):=Heap.get?_push_size _ rfl
 refine wpAny_bind (wpAny_holding (wpAny_call_entry slot_list_sort ⟨_,f,rfl⟩ entry_list_sort (list_sort_treeK strKind_oneLt f g.keysOf (fun x y rest e=>keyKind_strs (by rw[<-e];exact g)) (by lia) fun i a1 a2=>⟨_,rfl,?_⟩) (args_list_sort _)))
 obtain⟨j,O,z,P⟩:=sorted_out_str g a1 a2
 obtain⟨R,S⟩:=sortedHeap_at (out:=(arrOf i).map (·.2)) f
 refine wpAny_pure ⟨_,rfl,?_⟩
 have k:(c.push {cls:=.type "list",data:=.seq a.toArray}).objs.size=c.objs.size+1:=size_push' ..
 have B:=(I.kept (t':=p) keep).drawn K
 have k2:∀b o,c.get? b=some o->(sortedHeap (c.push {cls:=.type "list",data:=.seq a.toArray}) c.objs.size a ((arrOf i).map (·.2))).get? b=some o:=fun b o e=>by
  have C:b<c.objs.size:=Heap.lt_size e
  rw[sortedHeap_old (Nat.ne_of_lt C) (by rw[k];exact Nat.lt_succ_of_lt C)]
  exact Heap.get?_push_of_some _ e
 have l:j.length<=sizeLine:=by
  rw[z.length_eq,<-M]
  exact v
 have new:Au X.prog X.w (upd H c.objs.size (.lst (j.map V.str))) (sortedHeap (c.push {cls:=.type "list",data:=.seq a.toArray}) c.objs.size a ((arrOf i).map (·.2))) c.objs.size (.lst (j.map V.str)):=
  ⟨by rw[List.length_map];exact l,((arrOf i).map (·.2)).toList,R,HS O,by rw[Array.toArray_toList];exact S⟩
 have D:H c.objs.size=none:=B.fresh
 exact⟨.ref c.objs.size,_,B.laid (t':=p) k2 (Nat.le_refl _) new,rfl,q _ j _ D (AG.new D) AE (z.trans t) P⟩
end
open PySem.AutoSeq1 (wpAny_loadPart')
open PySem.MeetsSeq3
section
variable{prog:Program} {w:World} {A:Around} {s:Shared}
def WM (prog:Program) (w:World) (A:Around) (s:Shared) (u v:Value) (b:Bool):Prop:=∀(E:Value->Shared->Prop) (Q:Bool->Shared->Prop),Q b s->wpAny (model prog w) A (eqBool u v) Q E s
def cK (prog:Program) (w:World) (A:Around) (s:Shared) (u v:Value) (b:Bool):Prop:=∀(E:Value->Shared->Prop) (Q:Value->Shared->Prop),Q (.bool b) s->wpAny (model prog w) A (richCompare .Eq u v) Q E s
theorem WM.of {u v:Value} {b:Bool} (h:SeqAt.EqAt A s u v b):WM prog w A s u v b:=fun E Q a=>h prog w E Q a
theorem cK.of {u v:Value} {b:Bool} (h:SeqAt.RcAt A s u v b):cK prog w A s u v b:=fun E Q a=>h prog w E Q a
theorem WM.by {u v:Value} {b:Bool} (g:u=v->b=true) (nf:(∃i t,u=.int i t)∨(∃x t,u=.str x t)∨(∃c,u=.bool c)∨∃a,u=.ref a) (h:cK prog w A s u v b):WM prog w A s u v b:=fun E Q f=>by
 by_cases e:u=v
 ·have:=g e
  subst e this
  exact SeqAt.EqAt.same _ prog w E Q f
 ·unfold eqBool
  refine wpAny_holding (wpAny_ite_split (fun d=>absurd (eq_of_beq d) e) (fun _=>?_))
  rcases nf with⟨i,t,rfl⟩|⟨x,t,rfl⟩|⟨c,rfl⟩|⟨a,rfl⟩<;>exact wpAny_bind (h E _ (wpAny_truthy_bool f))
theorem WN {l b:Addr} {items a:Array Value} {n D:Nat} {E t:Option Addr} {sl u:Array (Option Value)} (hsz:items.size=a.size) (hl:s.heap.get? l=some {cls:=.type "list",dict:=E,data:=.seq items n,slots:=sl})
  (q:s.heap.get? b=some {cls:=.type "list",dict:=t,data:=.seq a D,slots:=u}) {e:Nat->Bool} (F:∀j (M:j<items.size) (N:j<a.size),WM prog w A.in1 s items[j] a[j] (e j)) {R:Result->Shared->Prop} {r:Bool} (B:r=true↔∀j,j<items.size->e j=true) (C:R (.ok (.ret (.bool r))) s):
  ∀k i:Nat,items.size-i=k->i<=items.size->(∀j,j<i->e j=true)->codeAny (model prog w) A (.builtin "list.__eq__.loop" ⟨[.ref l,.ref b,rawInt i,rawInt 2],[]⟩) R s:=by
 obtain⟨O,g,d,P,os⟩:=s
 intro k
 induction k with
 |zero=>
  intro i G H c
  have I:i=items.size:=by lia
  have v:r=true:=B.mpr fun j J=>c j (by lia)
  subst v
  refine codeAny_builtin entry_eq_loop ?_
  rw[Around.under_plainId plain_eq_loop _]
  wp_walk using wpAny_loadPart' hl,wpAny_loadPart' q
  have f:items[((i:Nat):Int).toNat]?=none:=by simp;lia
  have h:a[((i:Nat):Int).toNat]?=none:=by simp;lia
  rw[f,h]
  wp_walk using wpAny_loadPart' hl,wpAny_loadPart' q
  show R (.ok (.ret (.bool (items.size==a.size)))) _
  rw[hsz]
  simpa using C
 |succ k K=>
  intro i G H c
  refine codeAny_builtin entry_eq_loop ?_
  rw[Around.under_plainId plain_eq_loop _]
  wp_walk using wpAny_loadPart' hl,wpAny_loadPart' q
  have m:i<items.size:=by lia
  have o:i<a.size:=by lia
  have f:items[((i:Nat):Int).toNat]?=some items[i]:=by simp[m]
  have h:a[((i:Nat):Int).toNat]?=some a[i]:=by simp[o]
  have L:((i:Int)+1)=((i+1:Nat):Int):=by push_cast;rfl
  rw[f,h]
  refine wpAny_bind (F i m o _ _ ?_)
  cases p:e i with
  |true=>
   wp_walk
   rw[L]
   refine⟨plainId_quiet plain_eq_loop _,K (i+1) (by lia) m fun j J=>?_⟩
   rcases Nat.lt_or_ge j i with z|z
   ·exact c j z
   ·rw[show j=i by lia];exact p
  |false=>
   have x:r=false:=by
    cases y:r with
    |false=>rfl
    |true=>have:=B.mp y i m;rw[p]at this;cases this
   subst x
   wp_walk using wpAny_loadPart' hl,wpAny_loadPart' q
   rw[f,h]
   wp_walk
   exact C
theorem WO {l b:Addr} {items a:Array Value} (hl:s.heap.IsList l items) (q:s.heap.IsList b a) (hsz:items.size=a.size) (t:A.units<cLine) {e:Nat->Bool}
  (u:∀j (G:j<items.size) (H:j<a.size),WM prog w A.in1 s items[j] a[j] (e j)) {r:Bool} (v:r=true↔∀j,j<items.size->e j=true):cK prog w A s (.ref l) (.ref b) r:=fun E Q h=>by
 obtain⟨⟨y,I,data,J⟩,k,m,n,o⟩:=id hl
 obtain⟨⟨p,z,data2,B⟩,c,f,K,i⟩:=id q
 simp only at m o f i
 subst m o f i
 refine wpAny_richCompare_same_room (op:=.Eq) ⟨_,k,rfl⟩ ⟨_,c,rfl⟩ F.slot_list_eq (call_one F.slot_list_eq ⟨_,k,rfl⟩ F.entry_list_eq (F.args_list_eq_2 _ _) ?_) t
 obtain⟨L,g,d,M,os⟩:=s
 have N:=AutoSeq1.sub_list_list
 have C:¬(items.size !=a.size)=true:=by simp[hsz]
 wp_walk using wpAny_loadPart' k,wpAny_loadPart' c
 exact⟨plainId_quiet plain_eq_loop _,WN hsz k c u v (show(Value.bool r≠Value.notImplemented)/\Q (.bool r) _ from⟨(fun x=>nomatch x),h⟩) _ 0 rfl (Nat.zero_le _) fun j D=>absurd D (Nat.not_lt_zero _)⟩
theorem WQ {Y:Type} [DecidableEq Y] {knd:PySem.KeyKind prog w Y} {a b:Addr} {t y:List (Y×Value)} (ha:(a==sysModules)=false) (hb:(b==sysModules)=false) (W:s.heap.DictOf knd a t) (Z:s.heap.DictOf knd b y) (hu:A.units<cLine) {e:Nat->Bool}
  (he:t.length=y.length->∀(j:Nat) k u,t[j]?=some (k,u)->(valueAt y k=none/\e j=false)∨∃v,valueAt y k=some v/\WM prog w A.in1 s u v (e j)) {r:Bool} (hr:r=true↔(t.length=y.length/\∀j,j<t.length->e j=true)):cK prog w A s (.ref a) (.ref b) r:=fun E Q h=>by
 refine wpAny_richCompare_same_room (op:=.Eq) W.typeIs Z.typeIs PySem.F.slot_dict_eq (wpAny_call_entry PySem.F.slot_dict_eq W.typeIs PySem.F.entry_dict_eq ?_ (PySem.F.args_dict_eq_2 _ _)) hu
 show wpAny _ _ (Builtin.Dict.dictSlotArgs "__eq__" ⟨[.ref a,.ref b],[]⟩>>=_) _ _ s
 refine wpAny_bind ?_
 unfold Builtin.Dict.dictSlotArgs
 refine wpAny_bind (wpAny_notOrdered_dict W.typeIs ?_)
 show wpAny _ _ (pure (Value.ref a,Value.ref b)) _ _ s
 refine wpAny_pure ?_
 refine wpAny_bind (wpAny_isInstance (T:="dict") Z.typeIs PySem.F.sub_dict_dict ?_)
 simp only[Bool.not_true,Bool.false_eq_true,if_false]
 refine wpAny_bind (wpAny_pure (wpAny_bind (wpAny_pure ?_)))
 obtain⟨oa,g,ep,B,_,C,Ph,P,hna⟩:=W
 obtain⟨ob,m,ep',D,_,G,R,J,hnb⟩:=Z
 have K:t.length=g.size:=by rw[<-P.length];exact Array.length_toList
 have L:y.length=m.size:=by rw[<-J.length];exact Array.length_toList
 refine wpAny_bind ?_
 unfold Builtin.Dict.samePairs Builtin.Dict.showsAll
 rw[if_neg (show¬(a==sysModules)=true by rw[ha];exact Bool.false_ne_true),if_neg (show¬(b==sysModules)=true by rw[hb];exact Bool.false_ne_true)]
 refine wpAny_bind (wpAny_pure (wpAny_bind (wpAny_pure ?_)))
 refine wpAny_bind (wpAny_dictEntries B C ?_)
 dsimp only
 refine wpAny_bind (wpAny_dictEntries D G ?_)
 have fin:∀c:Bool,c=r->∃v,Fin.done (Flow.ret (Value.bool (c==true)))=.done (.ret v)/\v≠.notImplemented/\Q v s:=fun c hc=>by
  subst hc
  refine⟨_,rfl,(fun x=>nomatch x),?_⟩
  cases c<;>exact h
 by_cases S:t.length=y.length
 ·rw[if_neg (by rw[<-K,<-L,S];simp)]
  refine wpAny_bind (wpAny_dictEpoch B C ?_)
  refine wpAny_bind ?_
  rw[Std.Legacy.Range.forIn_eq_forIn_range']
  simp only[Std.Legacy.Range.size,Nat.sub_zero,Nat.add_sub_cancel,Nat.div_one]
  refine wpAny_forIn_list _ (fun rest q s'=>s'=s/\q=(none,())/\∃i,rest=List.range' i (g.size-i)/\i<=g.size/\∀j,j<i->e j=true) _ ?_ ?_ _ _ ⟨rfl,rfl,0,by simp,Nat.zero_le _,fun j M=>absurd M (Nat.not_lt_zero _)⟩
  ·rintro x rest q s' ⟨rfl,rfl,i,f,hi,n⟩
   have o:i<g.size:=by
    rcases Nat.lt_or_ge i g.size with h|h
    ·exact h
    ·rw[Nat.sub_eq_zero_of_le h]at f;simp at f
   obtain⟨rfl,N⟩:x=i/\rest=List.range' (i+1) (g.size-(i+1)):=by
    have e:g.size-i=(g.size-(i+1))+1:=by lia
    rw[e,List.range'_succ]at f
    injection f with h1 h2
    exact⟨h1,h2⟩
   have H:x<t.length:=by rw[K];exact o
   obtain⟨k,u,zG⟩:∃k u,t[x]=(k,u):=⟨_,_,rfl⟩
   have gk:t[x]?=some (k,u):=by rw[ADr H,zG]
   have hh:=he S x k u gk
   refine wpAny_bind (wpAny_dictEntries B C ?_)
   rw[Array.getElem?_eq_getElem o]
   obtain⟨I,U⟩:=P.get? (i:=x) (e:=g[x]) (k:=k) (v:=u) (by rw[Array.getElem?_toList];exact Array.getElem?_eq_getElem o) gk
   obtain⟨k2,zH,V⟩:=Ph g[x] (Array.getElem_mem o)
   have zI:k2=k:=knd.inj _ _ _ zH I
   rw[zI]at V
   show wpAny _ _ (holding [g[x].key,g[x].val] _>>=_) _ _ _
   rw[V]
   refine wpAny_bind (wpAny_holding (wpAny_bind (wpAny_dictFind_of I D G R ?_)))
   have d:findBy knd.is m k=valueAt y k:=by
    rw[<-J.find k]
    clear L J R G D
    obtain⟨l⟩:=m
    simp[findBy]
   have rf:e x=false->false=r:=fun O=>by
    cases f:r with
    |false=>rfl
    |true=>have:=(hr.mp f).2 x H;rw[O]at this;cases this
   cases M:m.findIdx? fun e=>knd.is k e.key with
   |none=>
    rw[findBy_of_findIdx?,M]at d
    have hn:valueAt y k=none:=d.symm
    rcases hh with⟨_,O⟩|⟨v,X,_⟩
    ·refine wpAny_pure ?_
     show wpAny _ _ (if(!false)=true then _ else _) _ _ _
     rw[if_pos (by decide)]
     exact wpAny_pure (wpAny_pure (wpAny_pure (fin false (rf O))))
    ·rw[hn]at X;cases X
   |some j=>
    obtain⟨p,_,_⟩:=Array.findIdx?_eq_some_iff_getElem.mp M
    rw[findBy_of_findIdx?,M]at d
    rcases hh with⟨hn,_⟩|⟨v,X,hq⟩
    ·rw[hn]at d
     simp[Array.getElem?_eq_getElem p]at d
    have zJ:m[j].val=v:=by
     rw[X]at d
     simpa[Array.getElem?_eq_getElem p]using d
    refine wpAny_bind (wpAny_dictEntries D G ?_)
    rw[Array.getElem?_eq_getElem p]
    refine wpAny_holding ?_
    rw[zJ,U]
    refine hq _ _ ?_
    cases O:e x with
    |true=>
     show wpAny _ _ (if(!true)=true then _ else _) _ _ _
     rw[if_neg (by decide)]
     refine wpAny_bind (wpAny_dictEpoch B C ?_)
     rw[if_neg (by simp)]
     refine wpAny_pure ⟨rfl,rfl,x+1,N,o,fun j M=>?_⟩
     rcases Nat.lt_or_ge j x with z|z
     ·exact n j z
     ·rw[show j=x by lia];exact O
    |false=>
     show wpAny _ _ (if(!false)=true then _ else _) _ _ _
     rw[if_pos (by decide)]
     exact wpAny_pure (wpAny_pure (wpAny_pure (fin false (rf O))))
  ·rintro q s' ⟨rfl,rfl,i,f,hi,n⟩
   have hie:i=g.size:=by
    rcases Nat.lt_or_ge i g.size with h|h
    ·have e:g.size-i=(g.size-(i+1))+1:=by lia
     rw[e,List.range'_succ]at f;cases f
    ·lia
   exact wpAny_pure (wpAny_pure (fin true (hr.mpr ⟨S,fun j M=>n j (by lia)⟩).symm))
 ·rw[if_pos (by rw[<-K,<-L];simpa using S)]
  have zK:false=r:=by
   cases f:r with
   |false=>rfl
   |true=>exact absurd (hr.mp f).1 S
  exact wpAny_bind (wpAny_rule (wpAny_pure (wpAny_pure (fin false zK))))
end
namespace Pt
theorem Tn {y k:Str} {r:List Str} {z:Pt} {zs:List Pt}:look (y::r) (z::zs) k=if k=y then some z else look r zs k:=Bn
theorem Gp {ls:List Str} {ys:List Pt}:∀{ks:List Str} {xs:List Pt},Ko ks xs ls ys=true↔∀(j:Nat) k x,ks[j]?=some k->xs[j]?=some x->∃y,look ls ys k=some y/\Bw x y=true
 |[],xs=>by simp[Ko]
 |_::_,[]=>by simp[Ko]
 |k::ks,x::xs=>by
  simp only[Ko,Bool.and_eq_true,Gp (ks:=ks) (xs:=xs)]
  constructor
  ·intro⟨a,d⟩ j e f b c
   cases j with
   |zero=>
    simp at b c
    subst b c
    cases g:look ls ys k with
    |none=>rw[g]at a;cases a
    |some y=>rw[g]at a;exact⟨y,rfl,a⟩
   |succ j=>exact d j e f (by simpa using b) (by simpa using c)
  ·intro h
   refine⟨?_,fun j e f b c=>h (j+1) e f (by simpa using b) (by simpa using c)⟩
   obtain⟨y,a,d⟩:=h 0 k x rfl rfl
   rw[a]
   exact d
theorem Ru:∀{ks:List Str} {xs:List Pt} {j:Nat} {k:Str} {x:Pt},ks.Nodup->ks[j]?=some k->xs[j]?=some x->look ks xs k=some x
 |[],_,_,_,_,_,h,_=>by simp at h
 |_::_,[],_,_,_,_,_,h=>by simp at h
 |y::ks,z::zs,j,k,x,nd,b,c=>by
  obtain⟨d,f⟩:=List.nodup_cons.mp nd
  rw[Tn]
  cases j with
  |zero=>simp at b c;rw[if_pos b.symm,c]
  |succ j=>
   have a:ks[j]?=some k:=by simpa using b
   rw[if_neg (fun e=>d (by rw[<-e];exact ADu a))]
   exact Ru f a (by simpa using c)
mutual
def Oo:Pt->Prop
 |int _|str _|bl _=>True
 |lst xs|tup xs=>Ku xs
 |BF ks xs=>ks.Nodup/\Ku xs
def Ku:List Pt->Prop
 |[]=>True
 |x::r=>Oo x/\Ku r
end
mutual
theorem Ju:∀t:Pt,t.nice->t.Oo
 |int _,_=>trivial
 |str _,_=>trivial
 |bl _,_=>trivial
 |lst xs,d=>by simp only[nice]at d;exact Ip xs d.2
 |tup xs,d=>by simp only[nice]at d;exact Ip xs d.2
 |BF ks xs,d=>by simp only[nice]at d;exact⟨d.2.1,Ip xs d.2.2.2⟩
theorem Ip:∀xs:List Pt,DO xs->Ku xs
 |[],_=>trivial
 |x::r,d=>by simp only[DO]at d;exact⟨Ju x d.1,Ip r d.2⟩
end
mutual
theorem aI:∀t:Pt,t.doc->t.Oo
 |int _,_=>trivial
 |str _,_=>trivial
 |bl _,_=>trivial
 |tup _,d=>by simp[doc]at d
 |lst xs,d=>by simp only[doc]at d;exact Qq xs d
 |BF ks xs,d=>by simp only[doc]at d;exact⟨d.2.1,Qq xs d.2.2.2.2⟩
theorem Qq:∀xs:List Pt,CH xs->Ku xs
 |[],_=>trivial
 |x::r,d=>by simp only[CH]at d;exact⟨aI x d.1,Qq r d.2⟩
end
mutual
theorem FD:∀t:Pt,t.Oo->Bw t t=true
 |int _,_=>by simp[Bw]
 |str _,_=>by simp[Bw]
 |bl _,_=>by simp[Bw]
 |lst xs,d=>by simp only[Oo]at d;simp only[Bw];exact FX xs d
 |tup xs,d=>by simp only[Oo]at d;simp only[Bw];exact FX xs d
 |BF ks xs,d=>by
  simp only[Oo]at d
  simp only[Bw,beq_self_eq_true,Bool.true_and]
  refine Gp.mpr fun j k x b a=>⟨x,Ru d.1 b a,?_⟩
  have:=FX xs d.2
  exact Rv xs this j x a
theorem FX:∀xs:List Pt,Ku xs->DJ xs xs=true
 |[],_=>by simp[DJ]
 |x::r,d=>by simp only[Ku]at d;simp only[DJ,Bool.and_eq_true];exact⟨FD x d.1,FX r d.2⟩
theorem Rv:∀xs:List Pt,DJ xs xs=true->∀(j:Nat) x,xs[j]?=some x->Bw x x=true
 |[],_,j,x,h=>by simp at h
 |y::r,h,0,x,a=>by
  simp only[DJ,Bool.and_eq_true]at h
  simp at a
  subst a
  exact h.1
 |y::r,h,j+1,x,a=>by
  simp only[DJ,Bool.and_eq_true]at h
  exact Rv r h.2 j x (by simpa using a)
end
end Pt
section
variable{K:ADv} [Ar K]
theorem Rd.one {H:Hp} {a:Addr} {u v:HO} (h:Rd H a u) (h':Rd H a v) (b:∀o z,u≠.CK o z) (c:∀o z,v≠.CK o z):u=v:=by
 rcases h with h|⟨o,h⟩<;>rcases h' with h'|⟨d,h'⟩<;>rw[h]at h'
 ·exact ADt h'
 ·exact absurd (ADt h') (b _ _)
 ·exact absurd (ADt h').symm (c _ _)
 ·have:=ADt h'
  injection this
theorem Ms:∀{ks ls:List Str},ks.map (Sum.inr:Str->Key)=ls.map Sum.inr->ks=ls
 |[],[],_=>rfl
 |[],_::_,h=>by simp at h
 |_::_,[],h=>by simp at h
 |k::ks,l::ls,h=>by
  simp only[List.map_cons,List.cons.injEq]at h
  rw[Sum.inr.inj h.1,Ms h.2]
mutual
theorem Val.one {H:Hp}:∀(s:Pt) {v:V} {t:Pt},Val H v s->Val H v t->s.doc->t.doc->s=t
 | .int i,_,t,.int _,h,_,d=>by cases h;rfl
 | .str x,_,t,.str _,h,_,d=>by cases h;rfl
 | .bl _,_,_,_,_,d,_=>by simp[Pt.doc]at d
 | .tup _,_,_,_,_,d,_=>by simp[Pt.doc]at d
 | .lst ts,_,t,.lst b c,h,d,d'=>by
  cases h with
  |lst a f=>
   have e:=Rd.one b a (fun o z e=>by cases e) (fun o z e=>by cases e)
   cases e
   simp only[Pt.doc]at d d'
   rw[Aa.one ts c f d d']
  |tup _ _=>simp[Pt.doc]at d'
  |BF a _ _=>
   have e:=Rd.one b a (fun o z e=>by cases e) (fun o z e=>by cases e)
   cases e
 | .BF k ts,_,t,.BF b j c,h,d,d'=>by
  cases h with
  |BF a g f=>
   have e:=Rd.one b a (fun o z e=>by cases e) (fun o z e=>by cases e)
   cases e
   simp only[Pt.doc]at d d'
   rw[Aa.one ts c f d.2.2.2.2 d'.2.2.2.2]
   congr 1
   rw[j]at g
   exact Ms g
  |tup _ _=>simp[Pt.doc]at d'
  |lst a _=>
   have e:=Rd.one b a (fun o z e=>by cases e) (fun o z e=>by cases e)
   cases e
theorem Aa.one {H:Hp}:∀(ss:List Pt) {vs:List V} {ts:List Pt},Aa H vs ss->Aa H vs ts->Pt.CH ss->Pt.CH ts->ss=ts
 |[],_,_,.nil,h,_,_=>by cases h;rfl
 |s::ss,_,_,.cons h r,h',d,d'=>by
  cases h' with
  |cons g q=>
   simp only[Pt.CH]at d d'
   rw[Val.one s h g d.1 d'.1,Aa.one ss r q d.2 d'.2]
end
def jd (s t:Pt):Prop:=(s.doc/\t.doc)∨Pt.Bw s t=true
def Lb (ls:List Str) (ts:List Pt) (k:Str) (x:Pt):Bool:=match Pt.look ls ts k with
 |some y=>Pt.Bw x y
 |none=>false
theorem Fz {ls:List Str} {ts:List Pt} {k:Str} {x y:Pt} (h:Pt.look ls ts k=some y):Lb ls ts k x=Pt.Bw x y:=by unfold Lb;rw[h]
theorem Jv {ls:List Str} {ts:List Pt} {k:Str} {x:Pt} (h:Pt.look ls ts k=none):Lb ls ts k x=false:=by unfold Lb;rw[h]
def cM (ks:List Str) (ps:List Pt) (ls:List Str) (ts:List Pt) (j:Nat):Bool:=match ks[j]?,ps[j]? with
 |some k,some x=>Lb ls ts k x
 |_,_=>false
theorem Mt {ks ls:List Str} {ps ts:List Pt} {j:Nat} {k:Str} {x:Pt} (a:ks[j]?=some k) (b:ps[j]?=some x):cM ks ps ls ts j=Lb ls ts k x:=by unfold cM;rw[a,b]
theorem FY {xs ys:List Pt} (l:xs.length=ys.length):Pt.DJ xs ys=true↔∀j,j<xs.length->pairE xs ys j=true:=by
 rw[<-Jc l,List.all_eq_true]
 exact⟨fun h j a=>h j (List.mem_range.mpr a),fun h j a=>h j (List.mem_range.mp a)⟩
end
section
variable{X:Cx} [Ar X.K] {pins:List (Addr×Obj)} {σ:St} {H:Hp} {s:Shared}
theorem Yf {x:V} {t:Pt} {u:Value} (h:Val H x t) (r:RelV x u):(∃i t,u=.int i t)∨(∃x t,u=.str x t)∨(∃c,u=.bool c)∨∃a,u=.ref a:=by
 cases h with
 |int i=>exact .inl ⟨i,r⟩
 |str x=>exact .inr (.inl ⟨x,r⟩)
 |bl b=>exact .inr (.inr (.inl ⟨b,r⟩))
 |@lst a _ _ _ _=>exact .inr (.inr (.inr ⟨a,r⟩))
 |@tup a _ _ _ _=>exact .inr (.inr (.inr ⟨a,r⟩))
 |@BF a _ _ _ _ _ _=>exact .inr (.inr (.inr ⟨a,r⟩))
theorem vi (I:Inv X pins σ H s) {p t:Pt} (ih:∀p':Pt,p'.deep<p.deep->∀t',jd p' t'->∀{x y:V},Val H x p'->Val H y t'->∀{A:Around} {u v:Value},A.units+p'.deep<cLine->RelV x u->RelV y v->WM X.prog X.w A s u v (Pt.Bw p' t')) (nb:∀b,p≠.bl b) (c:jd p t) {x y:V} (hx:Val H x p) (hy:Val H y t) {A:Around} {u v:Value} (hu:A.units+p.deep<cLine) (ru:RelV x u) (m:RelV y v):cK X.prog X.w A s u v (Pt.Bw p t):=by
 have f:A.units<cLine:=by lia
 cases hx with
 |int i=>
  obtain⟨q,rfl⟩:∃t,u=Value.int i t:=ru
  cases hy with
  |int j=>obtain⟨o,rfl⟩:∃t,v=Value.int j t:=m;simp only[Pt.Bw];exact .of (SeqAt.RcAt.int_int i q j o)
  |str z=>obtain⟨o,rfl⟩:∃t,v=Value.str z t:=m;simp only[Pt.Bw];exact .of (SeqAt.RcAt.int_str i q z o)
  |bl b=>rcases c with⟨_,d⟩|c;(·simp[Pt.doc]at d);simp[Pt.Bw]at c
  |tup _ _=>rcases c with⟨_,d⟩|c;(·simp[Pt.doc]at d);simp[Pt.Bw]at c
  |@lst b O r B D=>
   cases(show v=Value.ref b from m)
   obtain⟨E,S,P,_⟩:=I.list (.inl B)
   simp only[Pt.Bw]
   exact .of (SeqAt.RcAt.int_list i q P.isList f)
  |@BF b kvs Q r B T D=>
   cases(show v=Value.ref b from m)
   obtain⟨_,dd,es,n,sl,J,_⟩:=HY I B
   simp only[Pt.Bw]
   exact .of (OK i q J f)
 |str x0=>
  obtain⟨q,rfl⟩:∃t,u=Value.str x0 t:=ru
  cases hy with
  |int j=>obtain⟨o,rfl⟩:∃t,v=Value.int j t:=m;simp only[Pt.Bw];exact .of (SeqAt.RcAt.str_int x0 q j o)
  |str z=>obtain⟨o,rfl⟩:∃t,v=Value.str z t:=m;simp only[Pt.Bw];exact .of (SeqAt.RcAt.str_str x0 q z o)
  |bl b=>rcases c with⟨_,d⟩|c;(·simp[Pt.doc]at d);simp[Pt.Bw]at c
  |tup _ _=>rcases c with⟨_,d⟩|c;(·simp[Pt.doc]at d);simp[Pt.Bw]at c
  |@lst b O r B D=>
   cases(show v=Value.ref b from m)
   obtain⟨E,S,P,_⟩:=I.list (.inl B)
   simp only[Pt.Bw]
   exact .of (SeqAt.RcAt.str_list x0 q P.isList f)
  |@BF b kvs Q r B T D=>
   cases(show v=Value.ref b from m)
   obtain⟨_,dd,es,n,sl,J,_⟩:=HY I B
   simp only[Pt.Bw]
   exact .of (OM x0 q J f)
 |bl b=>exact absurd rfl (nb b)
 |@lst a zL C U W=>
  cases(show u=Value.ref a from ru)
  obtain⟨mQ,r0,p0,_⟩:=I.list (.inl U)
  have e0:mQ.toArray.size=C.length:=by rw[List.size_toArray,<-r0.length,W.length]
  simp only[Pt.deep]at hu
  cases hy with
  |int j=>obtain⟨o,rfl⟩:∃t,v=Value.int j t:=m;simp only[Pt.Bw];exact .of (SeqAt.RcAt.list_int j o p0.isList f)
  |str z=>obtain⟨o,rfl⟩:∃t,v=Value.str z t:=m;simp only[Pt.Bw];exact .of (SeqAt.RcAt.list_str z o p0.isList f)
  |bl b=>rcases c with⟨_,d⟩|c;(·simp[Pt.doc]at d);simp[Pt.Bw]at c
  |tup _ _=>rcases c with⟨_,d⟩|c;(·simp[Pt.doc]at d);simp[Pt.Bw]at c
  |@BF b kvs Q r B T D=>
   cases(show v=Value.ref b from m)
   obtain⟨_,dd,es,n,sl,J,_⟩:=HY I B
   simp only[Pt.Bw]
   exact .of (Me p0.isList J f)
  |@lst b O r B D=>
   cases(show v=Value.ref b from m)
   obtain⟨E,S,P,_⟩:=I.list (.inl B)
   have e1:E.toArray.size=r.length:=by rw[List.size_toArray,<-S.length,D.length]
   simp only[Pt.Bw]
   by_cases l:C.length=r.length
   ·refine WO p0.isList P.isList (by rw[e0,e1,l]) f (e:=pairE C r) (fun j G h2=>?_) (by rw[e0];exact FY l)
    obtain⟨v1,q,g1,L,M,F⟩:=W.at r0 G
    obtain⟨v2,o,g3,g4,N,mR⟩:=D.at S h2
    have e:pairE C r j=Pt.Bw q o:=by simp[pairE,L,g4]
    rw[e]
    have dl:=Pt.BC (ADu L)
    refine ih q (by simp only[Pt.deep];lia) o ?_ M N (by show A.units+1+_<cLine;lia) F mR
    rcases c with⟨d,d'⟩|c
    ·simp only[Pt.doc]at d d'
     exact .inl ⟨Pt.Ba d _ (ADu L),Pt.Ba d' _ (ADu g4)⟩
    ·simp only[Pt.Bw]at c
     exact .inr (by rw[<-e];exact(FY l).mp c j (by rw[<-e0];exact G))
   ·rw[EA l]
    exact .of (SeqAt.RcAt.lists_lengths p0.isList P.isList (by rw[e0,e1];simpa using l) f)
 |@tup a zL C U W=>
  cases(show u=Value.ref a from ru)
  have Y:Pt.Bw (.tup C) t=true:=by
   rcases c with⟨d,_⟩|c
   ·simp[Pt.doc]at d
   ·exact c
  simp only[Pt.deep]at hu
  cases hy with
  |@tup b O r B D=>
   cases(show v=Value.ref b from m)
   simp only[Pt.Bw]at Y⊢
   have l:C.length=r.length:=by
    rcases Nat.lt_trichotomy C.length r.length with z|z|z
    ·rw[EA (by lia)]at Y;cases Y
    ·exact z
    ·rw[EA (by lia)]at Y;cases Y
   obtain⟨E,S,P,_⟩:=I.tuple U
   obtain⟨mS,r2,p2,_⟩:=I.tuple B
   have e1:E.toArray.size=C.length:=by rw[List.size_toArray,<-S.length,W.length]
   have e2:mS.toArray.size=r.length:=by rw[List.size_toArray,<-r2.length,D.length]
   rw[Y]
   refine LR P p2 (by rw[e1,e2,l]) f fun j G h2=>?_
   obtain⟨v1,q,g1,L,M,F⟩:=W.at S G
   obtain⟨v2,o,g3,g4,N,mR⟩:=D.at r2 h2
   have e:pairE C r j=Pt.Bw q o:=by simp[pairE,L,g4]
   have et:Pt.Bw q o=true:=by rw[<-e];exact(FY l).mp Y j (by rw[<-e1];exact G)
   have dl:=Pt.BC (ADu L)
   have:=ih q (by simp only[Pt.deep];lia) o (.inr et) M N (A:=A.in1) (by show A.units+1+_<cLine;lia) F mR
   rw[et]at this
   exact this
  |_=>simp[Pt.Bw]at Y
 |@BF a kvs Q C U Ph W=>
  cases(show u=Value.ref a from ru)
  simp only[Pt.deep]at hu
  cases hy with
  |int j=>obtain⟨o,rfl⟩:∃t,v=Value.int j t:=m;obtain⟨_,dd,es,n,sl,J,_⟩:=HY I U;simp only[Pt.Bw];exact .of (OL j o J f)
  |str z=>obtain⟨o,rfl⟩:∃t,v=Value.str z t:=m;obtain⟨_,dd,es,n,sl,J,_⟩:=HY I U;simp only[Pt.Bw];exact .of (ON z o J f)
  |bl b=>rcases c with⟨_,d⟩|c;(·simp[Pt.doc]at d);simp[Pt.Bw]at c
  |tup _ _=>rcases c with⟨_,d⟩|c;(·simp[Pt.doc]at d);simp[Pt.Bw]at c
  |@lst b O r B D=>
   cases(show v=Value.ref b from m)
   obtain⟨_,dd,es,n,sl,J,_⟩:=HY I U
   obtain⟨E,S,P,_⟩:=I.list (.inl B)
   simp only[Pt.Bw]
   exact .of (Mf P.isList J f)
  |@BF b de ls r B dz D=>
   cases(show v=Value.ref b from m)
   obtain⟨z,hm,O,rel,dd⟩:=Eh I.BS U
   obtain⟨z',zM,mT,Z,zN⟩:=Eh I.BS B
   have k1:O.map (·.1)=Q.map Sum.inr:=by rw[<-Ph];exact(KV.keys rel).symm
   have l1:O.length=Q.length:=by have:=congrArg List.length k1;simpa using this
   have l2:mT.length=ls.length:=by
    rw[<-Z.length]
    have:=congrArg List.length dz
    simpa using this
   have lp:Q.length=C.length:=by
    have G:=W.length
    rw[List.length_map]at G
    have h2:=congrArg List.length Ph
    simp at h2
    lia
   refine WQ hm zM dd zN f (e:=cM Q C ls r) (fun ll j k u g=>?_) ?_
   ·have hj:j<O.length:=(ADs g).1
    have gv:(O.map (·.2))[j]?=some u:=by rw[List.getElem?_map,g];rfl
    have G:j<(O.map (·.2)).toArray.size:=by rw[List.size_toArray];exact(ADs gv).1
    obtain⟨v1,q,g1,L,M,F⟩:=W.at (YM rel) G
    rw[Vn gv G]at F
    obtain⟨nm,mU⟩:∃nm,Q[j]?=some nm:=⟨_,ADr (by lia)⟩
    have ek:k=Sum.inr nm:=by
     have:=congrArg (fun z=>z[j]?) k1
     simp only[List.getElem?_map,g,mU]at this
     simpa using this
    subst ek
    rw[Mt mU L]
    have m:=Z.val (Sum.inr nm)
    rcases Val.EV dz D nm with⟨w1,o,q1,q2,N⟩|⟨q1,q2⟩
    ·rw[q1]at m
     rw[Fz q2]
     cases R:valueAt mT (Sum.inr nm)with
     |none=>rw[R]at m;exact m.elim
     |some u2=>
      rw[R]at m
      have dl:=Pt.BC (ADu L)
      refine .inr ⟨u2,rfl,ih q (by simp only[Pt.deep];lia) o ?_ M N (by show A.units+1+_<cLine;lia) F m⟩
      rcases c with⟨d,d'⟩|c
      ·simp only[Pt.doc]at d d'
       exact .inl ⟨Pt.Ba d.2.2.2.2 _ (ADu L),Pt.Ba d'.2.2.2.2 _ (Pt.Vs q2).2⟩
      ·simp only[Pt.Bw,Bool.and_eq_true]at c
       obtain⟨y,y1,y2⟩:=Pt.Gp.mp c.2 j nm q mU L
       rw[q2]at y1
       cases y1
       exact .inr y2
    ·rw[q1]at m
     rw[Jv q2]
     cases R:valueAt mT (Sum.inr nm)with
     |some u2=>rw[R]at m;exact m.elim
     |none=>exact .inl ⟨rfl,rfl⟩
   ·simp only[Pt.Bw,Bool.and_eq_true,beq_iff_eq,Pt.Gp]
    rw[l1,l2]
    refine and_congr_right fun ll=>⟨fun h j hj=>?_,fun h j k x T hx=>?_⟩
    ·obtain⟨k,T⟩:∃k,Q[j]?=some k:=⟨_,ADr hj⟩
     obtain⟨x,hx⟩:∃x,C[j]?=some x:=⟨_,ADr (by lia)⟩
     obtain⟨y,G,h2⟩:=h j k x T hx
     rw[Mt T hx,Fz G]
     exact h2
    ·have:=h j (ADs T).1
     rw[Mt T hx]at this
     cases hl:Pt.look ls r k with
     |none=>rw[Jv hl]at this;cases this
     |some y=>rw[Fz hl]at this;exact⟨y,rfl,this⟩
theorem WR (I:Inv X pins σ H s):∀(n:Nat) (p:Pt),p.deep<=n->∀t,jd p t->∀{x y:V},Val H x p->Val H y t->∀{A:Around} {u v:Value},A.units+p.deep<cLine->RelV x u->RelV y v->WM X.prog X.w A s u v (Pt.Bw p t)
 |0,p,h=>by have:=Pt.D' p;lia
 |n+1,p,h=>fun t c x y a g A u v l f i=>by
  by_cases k:∃b,p=.bl b
  ·obtain⟨b,rfl⟩:=k
   rcases c with⟨d,_⟩|c
   ·simp[Pt.doc]at d
   ·cases t with
    |bl m=>
     have e:b=m:=by simpa[Pt.Bw]using c
     subst e
     cases a
     cases g
     cases(show u=Value.bool b from f)
     cases(show v=Value.bool b from i)
     rw[c]
     exact .of (SeqAt.EqAt.same _)
    |_=>simp[Pt.Bw]at c
  ·refine WM.by (fun e=>?_) (Yf a f) (vi I (fun o r=>WR I n o (by lia)) (fun b z=>k ⟨b,z⟩) c a g l f i)
   rcases c with⟨d,q⟩|c
   ·subst e
    have j:x=y:=f.inj i
    subst j
    have:=Val.one p a g d q
    subst this
    exact Pt.FD p (Pt.aI p d)
   ·exact c
end
inductive Yg {K:ADv} [Ar K] (x y:V) (H:Hp) (Q:VK):Prop
 |mk (p t:Pt) (a:Val H x p) (e:Val H y t) (f:∀b,p≠.bl b) (c:jd p t) (d:p.deep<=60) (q:Q (.bl (Pt.Bw p t)) H):Yg x y H Q
section
variable{X:Cx}
theorem WS (j:X.A.units+64<cLine):DC X (compareOp .Eq) (@Yg X.K ⟨trivial⟩):=by
 haveI:Ar X.K:=⟨trivial⟩
 intro pins s k H x y v u Q I a b h
 obtain⟨p,t,e,f,g,c,d,q⟩:=h
 exact vi I (fun i _=>WR I _ i (Nat.le_refl _)) g c e f (A:=X.A) (by lia) a b _ _ ⟨.bl _,H,I,rfl,q⟩
end
open PySem.AutoSeq1 (wpAny_loadPart')
open PySem.MeetsSeq3
section
variable{prog:Program} {w:World} {A:Around} {s:Shared}
theorem To {l b:Addr} {items a:Array Value} (hl:s.heap.IsTuple l items) (G:s.heap.IsTuple b a) (hsz:items.size=a.size) (H:A.units<cLine)
  (I:∀j (v:j<items.size) (z:j<a.size),jb prog w A.in1 s items[j] a[j]) {E:Value->Shared->Prop} {Q:Value->Shared->Prop} (h:Q (.bool false) s):wpAny (model prog w) A (richCompare .NotEq (.ref l) (.ref b)) Q E s:=by
 obtain⟨⟨J,R,data,S⟩,r,B,n,C⟩:=id hl
 obtain⟨⟨D,K,data2,L⟩,f,k,T,m⟩:=id G
 simp only at B C k m
 subst B C k m
 refine wpAny_richCompare_same_room (op:=.NotEq) ⟨_,r,rfl⟩ ⟨_,f,rfl⟩ F.slot_tuple_ne (wpAny_call_entry F.slot_tuple_ne ⟨_,r,rfl⟩ F.entry_tuple_ne ?_ (F.args_tuple_ne_2 _ _)) H
 obtain⟨M,g,d,N,os⟩:=s
 have U:=AutoSeq1.sub_tuple_tuple
 wp_walk using wpAny_loadPart' r,wpAny_loadPart' f,wpAny_forIn_list _ (fun rest b t=>b.1=none/\t=⟨M,g,d,N,os⟩/\∃i,rest=(items.toList.zip a.toList).drop i) _
 case turn=>
  rintro⟨y,x⟩ rest b t ⟨c,rfl,i,o⟩
  have p:i<(items.toList.zip a.toList).length:=by
   rcases Nat.lt_or_ge i (items.toList.zip a.toList).length with u|u
   ·exact u
   ·rw[List.drop_of_length_le u]at o;cases o
  have v:i<items.size:=by simp at p;lia
  have z:i<a.size:=by lia
  rw[List.drop_eq_getElem_cons p]at o
  injection o with q e
  have O:y=items[i]:=by have:=congrArg Prod.fst q;simpa using this
  have P:x=a[i]:=by have:=congrArg Prod.snd q;simpa using this
  subst O P
  refine wpAny_bind (I i v z _ _ ?_)
  wp_walk
  exact⟨rfl,rfl,i+1,e⟩
 case fin=>
  rintro⟨V,W⟩ t ⟨c,rfl,i,o⟩
  simp only at c
  subst c
  wp_walk
  exact⟨_,rfl,(fun x=>nomatch x),by simpa[Builtin.Tuple.tupleCompareSizes,hsz]using h⟩
 case h=>
  exact⟨rfl,rfl,0,rfl⟩
theorem Lc {l b:Addr} {items a:Array Value} (hl:s.heap.IsTuple l items) (H:s.heap.IsTuple b a) (I:A.units<cLine) (B:(items.size≠0/\a.size=0)∨∃(t:0<items.size) (j:0<a.size),WM prog w A.in1 s items[0] a[0] false):cK prog w A s (.ref l) (.ref b) false:=fun E Q h=>by
 obtain⟨⟨J,S,data,T⟩,u,m,n,C⟩:=id hl
 obtain⟨⟨D,K,data2,L⟩,o,p,U,q⟩:=id H
 simp only at m C p q
 subst m C p q
 refine wpAny_richCompare_same_room (op:=.Eq) ⟨_,u,rfl⟩ ⟨_,o,rfl⟩ F.slot_tuple_eq (wpAny_call_entry F.slot_tuple_eq ⟨_,u,rfl⟩ F.entry_tuple_eq ?_ (F.args_tuple_eq_2 _ _)) I
 obtain⟨M,g,d,N,os⟩:=s
 have V:=AutoSeq1.sub_tuple_tuple
 wp_walk using wpAny_loadPart' u,wpAny_loadPart' o,wpAny_forIn_list _ (fun rest b v=>b.1=none/\v=⟨M,g,d,N,os⟩/\rest=(items.toList.zip a.toList)) _
 case turn=>
  rintro⟨y,x⟩ rest b v ⟨f,rfl,k⟩
  rcases B with⟨_,j⟩|⟨t,j,G⟩
  ·have:a.toList=[]:=List.eq_nil_of_length_eq_zero (by rw[Array.length_toList];exact j)
   rw[this,List.zip_nil_right]at k
   cases k
  ·have e:items.toList.zip a.toList=(items[0],a[0])::(items.toList.zip a.toList).drop 1:=by
    have c:0<(items.toList.zip a.toList).length:=by simp;lia
    have:=List.drop_eq_getElem_cons (i:=0) (l:=items.toList.zip a.toList) c
    rw[List.drop_zero]at this
    rw[this]
    simp
   rw[e]at k
   injection k with r z
   have O:y=items[0]:=congrArg Prod.fst r
   have P:x=a[0]:=congrArg Prod.snd r
   subst O P
   refine wpAny_bind (G _ _ ?_)
   wp_walk
   exact⟨_,rfl,(fun x=>nomatch x),h⟩
 case fin=>
  rintro⟨W,X⟩ v ⟨f,rfl,k⟩
  simp only at f
  subst f
  wp_walk
  rcases B with⟨t,j⟩|⟨t,j,G⟩
  ·refine⟨_,rfl,(fun x=>nomatch x),?_⟩
   have R:(items.size==0)=false:=by simpa using t
   simp only[Builtin.Tuple.tupleCompareSizes,j,R]
   exact h
  ·have c:0<(items.toList.zip a.toList).length:=by simp;lia
   rw[<-k]at c
   simp at c
 case h=>
  exact⟨rfl,rfl,rfl⟩
end
inductive Yh {K:ADv} [Ar K] (x y:V) (H:Hp) (Q:VK):Prop
 |mk (ps ts:List Pt) (a:Val H x (.tup ps)) (b:Val H y (.tup ts)) (c:Pt.Bw (.tup ps) (.tup ts)=true) (d:(Pt.tup ps).deep<=60) (q:Q (.bl false) H):Yh x y H Q
section
variable{X:Cx}
theorem WT (Z:X.A.units+64<cLine):DC X (compareOp .NotEq) (@Yh X.K ⟨trivial⟩):=by
 haveI:Ar X.K:=⟨trivial⟩
 intro pins s σ H x y v u Q I L M h
 obtain⟨g,i,N,O,c,d,q⟩:=h
 simp only[Pt.deep]at d
 cases N with
 |@tup a P _ R w=>
  cases(show v=Value.ref a from L)
  cases O with
  |@tup b vs _ S B=>
   cases(show u=Value.ref b from M)
   simp only[Pt.Bw]at c
   have l:g.length=i.length:=by
    rcases Nat.lt_trichotomy g.length i.length with z|z|z
    ·rw[EA (by lia)]at c;cases c
    ·exact z
    ·rw[EA (by lia)]at c;cases c
   obtain⟨k,C,T,_⟩:=I.tuple R
   obtain⟨f,D,U,_⟩:=I.tuple S
   have E:k.toArray.size=g.length:=by rw[List.size_toArray,<-C.length,w.length]
   have V:f.toArray.size=i.length:=by rw[List.size_toArray,<-D.length,B.length]
   refine To (A:=X.A) T U (by rw[E,V,l]) (by lia) (fun j F W=>?_) ⟨.bl false,H,I,rfl,q⟩
   obtain⟨v1,m,g1,G,n,o⟩:=w.at C F
   obtain⟨v2,p,g3,Y,r,t⟩:=B.at D W
   have e:pairE g i j=Pt.Bw m p:=by simp[pairE,G,Y]
   have J:Pt.Bw m p=true:=by rw[<-e];exact(FY l).mp c j (by rw[<-E];exact F)
   have dl:=Pt.BC (ADu G)
   have:=WR I _ m (Nat.le_refl _) p (.inr J) n r (A:=X.A.in1) (by show X.A.units+1+_<cLine;lia) o t
   rw[J]at this
   exact this
inductive Tp (K:ADv) (x y:V) (H:Hp) (Q:VK):Prop
 |nil (a b:Addr) (c:Str) (rest:List V) (e:x=.ref a) (f:y=.ref b) (g:BY K H a (.str c::rest)) (h:BY K H b []) (q:Q (.bl false) H):Tp K x y H Q
 |other (a b:Addr) (c d:Str) (rest:List V) (e:x=.ref a) (f:y=.ref b) (g:BY K H a (.str c::rest)) (h:BY K H b [.str d]) (ne:c≠d) (q:Q (.bl false) H):Tp K x y H Q
 |same (a b:Addr) (c:Str) (e:x=.ref a) (f:y=.ref b) (g:BY K H a [.str c]) (h:BY K H b [.str c]) (q:Q (.bl true) H):Tp K x y H Q
theorem WU (L:X.A.units+64<cLine):DC X (compareOp .Eq) (Tp X.K):=by
 intro pins s M H x y v u Q I z B h
 rcases h with⟨a,b,i,rest,rfl,rfl,l,m,q⟩|⟨a,b,i,n,rest,rfl,rfl,l,m,ne,q⟩|⟨a,b,i,rfl,rfl,l,m,q⟩
 ·cases z
  cases B
  obtain⟨o,f,p,_⟩:=I.tuple l
  obtain⟨g,d,r,_⟩:=I.tuple m
  have l1:=f.length
  have l2:=d.length
  exact Lc (A:=X.A) (prog:=X.prog) (w:=X.w) p r (by lia) (.inl ⟨by rw[List.size_toArray,<-l1];simp,by rw[List.size_toArray,<-l2];rfl⟩) _ _ ⟨.bl false,H,I,rfl,q⟩
 ·cases z
  cases B
  obtain⟨o,f,p,_⟩:=I.tuple l
  obtain⟨g,d,r,_⟩:=I.tuple m
  cases f with
  |@cons _ G _ C k f=>
   cases d with
   |@cons _ J _ D t d=>
    cases d
    obtain⟨E,rfl⟩:=k
    obtain⟨F,rfl⟩:=t
    have c:=SeqAt.EqAt.str_str (A:=X.A.in1) (s:=s) i E n F
    rw[show(i==n)=false by simpa using ne]at c
    exact Lc (A:=X.A) (prog:=X.prog) (w:=X.w) p r (by lia) (.inr ⟨by simp,by simp,.of c⟩) _ _ ⟨.bl false,H,I,rfl,q⟩
 ·cases z
  cases B
  obtain⟨o,f,p,_⟩:=I.tuple l
  obtain⟨g,d,r,_⟩:=I.tuple m
  cases f with
  |@cons _ G _ C k f=>
   cases f
   cases d with
   |@cons _ J _ D t d=>
    cases d
    obtain⟨E,rfl⟩:=k
    obtain⟨F,rfl⟩:=t
    have c:=SeqAt.EqAt.str_str (A:=X.A.in1) (s:=s) i E i F
    rw[beq_self_eq_true]at c
    refine LR (A:=X.A) (prog:=X.prog) (w:=X.w) p r (by simp) (by lia) (fun j k t=>?_) _ _ ⟨.bl true,H,I,rfl,q⟩
    have e:j=0:=by simp at k;exact k
    subst e
    exact .of c
end
namespace Ak
mutual
theorem Good.one:∀{a b g:Ak},Good a b->Good a g->b=g
 |_,_,_,.any,h=>by cases h;rfl
 |_,_,_,.Ao d,h=>by cases h;rfl
 |_,_,_,.row h,h'=>by
  cases h' with
  |row h'=>rw[h.one h']
 |_,_,_,.tab i j e h,h'=>by
  cases h' with
  |tab c f k h'=>
   have es:=CN j f (i.trans c.symm)
   subst es
   have l:=some_inj (e.symm.trans k)
   subst l
   rw[h.one h']
theorem CZ.one:∀{as bs a:List Ak},CZ as bs->CZ as a->bs=a
 |_,_,_,.nil,h=>by cases h;rfl
 |_,_,_,.cons h r,h'=>by
  cases h' with
  |cons h' b=>rw[h.one h',r.one b]
end
theorem Rx {c l:Nat} {m:Bool}:cnt c l m=true↔c=l∨(m=true/\l<c):=by simp[cnt]
theorem Ld:∀{xs:List Ak} {ys:List Pt},FA xs ys=true↔∀(j:Nat) x y,xs[j]?=some x->ys[j]?=some y->lets x y=true
 |[],_=>by simp[FA]
 |_::_,[]=>by simp[FA]
 |x::xs,y::ys=>by
  simp only[FA,Bool.and_eq_true,Ld (xs:=xs) (ys:=ys)]
  constructor
  ·intro⟨e,f⟩ j c d a b
   cases j with
   |zero=>simp at a b;subst a b;exact e
   |succ j=>exact f j c d (by simpa using a) (by simpa using b)
  ·exact fun h=>⟨h 0 x y rfl rfl,fun j c d a b=>h (j+1) c d (by simpa using a) (by simpa using b)⟩
theorem Le {ks b:List Str} {xs:List Ak} {ys:List Pt} (l:ks.length=xs.length) (nd:ks.Nodup):Je ks xs b ys=true↔∀k x,lk ks xs k=some x->∃y,lk b ys k=some y/\lets x y=true:=by
 rw[Fv,GX _ l nd,List.all_eq_true]
 constructor
 ·intro h k x a
  have:=h k (CM a).1
  rw[a]at this
  cases c:lk b ys k with
  |none=>rw[c]at this;cases this
  |some y=>rw[c]at this;exact⟨y,rfl,this⟩
 ·intro h k a
  obtain⟨x,d⟩:=FP l a
  obtain⟨y,e,f⟩:=h k x d
  rw[d,e]
  exact f
theorem CA {ks ls a:List Str} {xs:List Ak} {ys:List Pt} {m:Bool} (l:ks.length=xs.length) (nd:ks.Nodup):lets (.tab ks xs ls m) (.BF a ys)=true↔(∀k∈ks,k∈a)/\(∀k∈ls,k∉a)/\(a.length=ks.length∨(m=true/\ks.length<a.length))/\∀k x,lk ks xs k=some x->∃y,lk a ys k=some y/\lets x y=true:=by
 simp only[lets,Bool.and_eq_true,Le l nd,Rx,List.all_eq_true,decide_eq_true_eq,Bool.not_eq_true',List.any_eq_false]
 constructor
 ·intro⟨⟨⟨b,c⟩,d⟩,e⟩;exact⟨b,c,d,e⟩
 ·intro⟨b,c,d,e⟩;exact⟨⟨⟨b,c⟩,d⟩,e⟩
theorem Oq {ks a:List Str} {xs ys:List Pt} (l:ks.length=xs.length) (nd:ks.Nodup):Pt.Bw (.BF ks xs) (.BF a ys)=true↔ks.length=a.length/\∀k x,lk ks xs k=some x->∃y,lk a ys k=some y/\Pt.Bw x y=true:=by
 simp only[Pt.Bw,Bool.and_eq_true,beq_iff_eq]
 rw[Hb,GX _ l nd,List.all_eq_true]
 refine and_congr_right fun _=>⟨fun h k x b=>?_,fun h k b=>?_⟩
 ·have:=h k (CM b).1
  rw[b]at this
  cases c:lk a ys k with
  |none=>rw[c]at this;cases this
  |some y=>rw[c]at this;exact⟨y,rfl,this⟩
 ·obtain⟨x,d⟩:=FP l b
  obtain⟨y,e,f⟩:=h k x d
  rw[d,e]
  exact f
theorem CU {xs:List Ak} {ys:List Pt} {m:Bool}:lets (.row xs m) (.lst ys)=true↔(ys.length=xs.length∨(m=true/\xs.length<ys.length))/\∀(j:Nat) x y,xs[j]?=some x->ys[j]?=some y->lets x y=true:=by
 simp only[lets,Bool.and_eq_true,Ld,Rx]
theorem Jw:∀{xs ys:List Pt},Pt.DJ xs ys=true↔xs.length=ys.length/\∀(j:Nat) x y,xs[j]?=some x->ys[j]?=some y->Pt.Bw x y=true
 |[],[]=>by simp[Pt.DJ]
 |[],_::_=>by simp[Pt.DJ]
 |_::_,[]=>by simp[Pt.DJ]
 |x::xs,y::ys=>by
  simp only[Pt.DJ,Bool.and_eq_true,Jw (xs:=xs) (ys:=ys),List.length_cons]
  constructor
  ·intro⟨e,g,f⟩
   refine⟨by lia,fun j c d a b=>?_⟩
   cases j with
   |zero=>simp at a b;subst a b;exact e
   |succ j=>exact f j c d (by simpa using a) (by simpa using b)
  ·exact fun⟨i,h⟩=>⟨h 0 x y rfl rfl,by lia,fun j c d a b=>h (j+1) c d (by simpa using a) (by simpa using b)⟩
theorem Mu (cs:List Ak) (m:Bool) (t:Pt):lets (Bo cs m) t=lets (.row cs m) t:=by
 unfold Bo
 split
 ·rename_i b;subst b;rfl
 ·rename_i b
  have:m=false:=by simpa using b
  subst this
  split
  ·rename_i k e
   rw[Bu e]
   rw[Bool.eq_iff_iff]
   cases t with
   |lst l=>
    rw[CU]
    simp only[lets,Pt.Bw,Jw]
    rw[List.length_map]
    constructor
    ·intro⟨c,f⟩
     refine⟨.inl c.symm,fun j x y a g=>?_⟩
     rw[List.getElem?_map]at a
     cases i:k[j]? with
     |none=>rw[i]at a;cases a
     |some d=>rw[i]at a;cases a;exact f j d y i g
    ·intro⟨c,f⟩
     refine⟨?_,fun j x y a g=>?_⟩
     ·rcases c with h|⟨h,_⟩
      ·exact h.symm
      ·cases h
     ·exact f j (.Ao x) y (by rw[List.getElem?_map,a];rfl) g
   |_=>simp[lets,Pt.Bw]
  ·rfl
theorem Mv {ss:List Str} {cs:List Ak} (ls:List Str) (m:Bool) (l:ss.length=cs.length) (nd:ss.Nodup) (p:∀k∈ls,k∉ss) {t:Pt} (d:t.doc):lets (Bp ss cs ls m) t=lets (.tab ss cs ls m) t:=by
 unfold Bp
 split
 ·rename_i j;subst j;rfl
 ·rename_i j
  have:m=false:=by simpa using j
  subst this
  have free:∀{f:List Str},f.Nodup->(∀k∈ss,k∈f)->f.length=ss.length->∀k∈ls,k∉f:=fun q b g k a z=>p k a ((Jd nd q g.symm b).mem_iff.mpr z)
  split
  ·rename_i r e
   have n:=Bu e
   subst n
   rw[List.length_map]at l
   rw[Bool.eq_iff_iff]
   cases t with
   |BF f s=>
    simp only[Pt.doc]at d
    rw[CA (by rw[List.length_map];exact l) nd]
    simp only[lets]
    rw[Oq l nd]
    constructor
    ·intro⟨b,g⟩
     have c:∀k∈ss,k∈f:=fun k a=>by
      obtain⟨x,u⟩:=FP l a
      obtain⟨y,v,_⟩:=g k x u
      exact(CM v).1
     refine⟨c,free d.2.1 c b.symm,.inl b.symm,fun k x a=>?_⟩
     rw[Fw]at a
     cases o:lk ss r k with
     |none=>rw[o]at a;cases a
     |some w=>rw[o]at a;cases a;exact g k w o
    ·intro⟨b,g,c,i⟩
     refine⟨?_,fun k x a=>?_⟩
     ·rcases c with h|⟨h,_⟩
      ·exact h.symm
      ·cases h
     ·exact i k (.Ao x) (by rw[Fw,a];rfl)
   |_=>simp[lets,Pt.Bw]
  ·rw[Bool.eq_iff_iff]
   cases t with
   |BF f s=>
    simp only[Pt.doc]at d
    rw[CA l nd,CA l nd]
    constructor
    ·intro⟨b,_,c,i⟩
     have A:f.length=ss.length:=by
      rcases c with h|⟨h,_⟩
      ·exact h
      ·cases h
     exact⟨b,free d.2.1 b A,c,i⟩
    ·intro⟨b,_,c,i⟩
     exact⟨b,(fun k a=>by simp at a),c,i⟩
   |_=>simp[lets]
mutual
theorem Good.lets:∀{a b:Ak},Good a b->a.Br->∀{t:Pt},t.doc->Ak.lets b t=Ak.lets a t
 |_,_,.any,_,_,_=>rfl
 |_,_,.Ao d,_,_,_=>rfl
 |_,_,.row (xs:=xs) (cs:=cs) (m:=m) h,o,t,d=>by
  simp only[Br]at o
  rw[Mu,Bool.eq_iff_iff]
  cases t with
  |lst H=>
   simp only[Pt.doc]at d
   rw[CU,CU,<-h.length]
   refine and_congr_right fun _=>⟨fun g j x y i q=>?_,fun g j x y i q=>?_⟩
   ·obtain⟨c,l⟩:∃c,cs[j]?=some c:=⟨_,ADr (by rw[<-h.length];exact(ADs i).1)⟩
    rw[<-h.Jx (Bg o) i l (Pt.Ba d y (ADu q))]
    exact g j c y l q
   ·obtain⟨c,l⟩:∃c,xs[j]?=some c:=⟨_,ADr (by rw[h.length];exact(ADs i).1)⟩
    rw[h.Jx (Bg o) l i (Pt.Ba d y (ADu q))]
    exact g j c y l q
  |_=>simp[Ak.lets]
 |_,_,.tab (ks:=ks) (ss:=ss) (xs:=xs) (as:=as) (cs:=cs) (ls:=ls) (m:=m) n N e h,o,t,d=>by
  simp only[Br]at o
  obtain⟨v,w,O,P,Q,I,J⟩:=o
  have K:=Cu v w n e
  have L:as.length=ss.length:=by have:=congrArg List.length e;simpa using this.symm
  have A:ss.length=cs.length:=by rw[<-h.length,L]
  have p:=n.nodup_iff.mpr w
  have F:∀x∈as,x.Br:=fun x i=>Bg J x (K.mem_iff.mp i)
  rw[Mv ls m A p (fun k f z=>I k f (n.mem_iff.mp z)) d,Bool.eq_iff_iff]
  cases t with
  |BF R H=>
   simp only[Pt.doc]at d
   rw[CA A p,CA v w,n.length_eq]
   have at_:∀{k:Str} {x:Ak},lk ks xs k=some x->∃(j:Nat) (c:Ak),ss[j]?=some k/\as[j]?=some x/\cs[j]?=some c/\lk ss cs k=some c:=fun{k x} f=>by
    obtain⟨j,s⟩:=List.getElem?_of_mem (n.mem_iff.mpr (CM f).1)
    have M:=(ADs s).1
    have B:as[j]?=some x:=by
     have:=congrArg (fun z=>z[j]?) e
     simp only[List.getElem?_map,s]at this
     cases G:as[j]? with
     |none=>rw[G]at this;cases this
     |some a=>rw[G]at this;simp only[Option.map_some]at this;have:=ADt this;rw[f]at this;exact this.symm
    obtain⟨c,l⟩:∃c,cs[j]?=some c:=⟨_,ADr (by lia)⟩
    refine⟨j,c,s,B,l,?_⟩
    have:=congrArg (fun z=>z[j]?) (Ga A p)
    simp only[List.getElem?_map,s,l]at this
    exact ADt this
   refine and_congr ⟨fun g k f=>g k (n.mem_iff.mpr f),fun g k f=>g k (n.mem_iff.mp f)⟩ (and_congr_right fun _=>and_congr_right fun _=>⟨fun g k x f=>?_,fun g k c f=>?_⟩)
   ·obtain⟨j,c,B,C,D,u⟩:=at_ f
    obtain⟨y,r,E⟩:=g k c u
    exact⟨y,r,by rw[<-h.Jx F C D (Pt.Ba d.2.2.2.2 y (CM r).2)];exact E⟩
   ·obtain⟨x,i⟩:=FP v (n.mem_iff.mp (CM f).1)
    obtain⟨j,S,B,C,D,u⟩:=at_ i
    rw[f]at u
    cases u
    obtain⟨y,r,E⟩:=g k x i
    exact⟨y,r,by rw[h.Jx F C D (Pt.Ba d.2.2.2.2 y (CM r).2)];exact E⟩
  |_=>simp[Ak.lets]
theorem CZ.Jx:∀{as bs:List Ak},CZ as bs->(∀a∈as,a.Br)->∀{j:Nat} {a b:Ak},as[j]?=some a->bs[j]?=some b->∀{t:Pt},t.doc->Ak.lets b t=Ak.lets a t
 |_,_,.nil,_,j,a,b,h,_,_,_=>by simp at h
 |_,_,.cons h r,o,0,a,b,c,e,t,d=>by
  simp at c e
  subst c e
  exact h.lets (o _ List.mem_cons_self) d
 |_,_,.cons h r,o,j+1,a,b,c,e,t,d=>r.Jx (fun x f=>o x (List.mem_cons_of_mem _ f)) (by simpa using c) (by simpa using e) d
end
end Ak
namespace Ak
mutual
inductive Ot:Ak->Ak->Prop
 |any:Ot .any .any
 |Ao (d:Pt):Ot (.Ao d) (.Ao d)
 |zO {b:List Pt} {cs:List Ak} (h:Jy (b.map Ao) cs):Ot (.Ao (.lst b)) (.row cs false)
 |zP {ks a ls:List Str} {b es:List Pt} {cs:List Ak} (c:a.Perm ks) (e:a.map (lk ks b)=es.map some) (h:Jy (es.map Ao) cs) (i:a.length<60) (f:ls.length<=100) (g:∀l∈ls,l∉a):Ot (.Ao (.BF ks b)) (.tab a cs ls false)
 |row {xs cs:List Ak} {m:Bool} (h:Jy xs cs):Ot (.row xs m) (.row cs m)
 |tab {ks a ls zs:List Str} {xs as cs:List Ak} {m:Bool} (c:a.Perm ks) (e:a.map (lk ks xs)=as.map some) (h:Jy as cs) (f:zs.length<=100) (g:∀l∈zs,l∉a) (hl:m=true->zs=ls):Ot (.tab ks xs ls m) (.tab a cs zs m)
inductive Jy:List Ak->List Ak->Prop
 |nil:Jy [] []
 |cons {x y:Ak} {xs ys:List Ak} (h:Ot x y) (r:Jy xs ys):Jy (x::xs) (y::ys)
end
def Pw (a b:List Ak):Prop:=a.length=b.length/\∀(j:Nat) c g,a[j]?=some c->b[j]?=some g->Pt.Bw c.pt g.pt=true
end Ak
variable{K:ADv} [Ar K]
def FZ (n:Nat):Sp:=fun c H Q _=>∃(v y:V) (a:Ak) (t:Pt),c=[v,y]/\Val H v a.pt/\Val H y t/\a.Br/\t.doc/\a.size<=900/\t.size<=900/\a.dp<=60/\a.deep<=n/\∀b,AG H b->Q (.bl (Ak.lets a t)) b
end L2
namespace L2
open PySem PySem.Spec PyProof.Rows
def FE (H a:Hp):Hp:=fun b=>match H b with
 |some _=>a b
 |none=>match a b with
  |some (.CK _ u)=>some u
  |x=>x
theorem Ry {H a:Hp} {b:Addr} {o:HO} (h:H b=some o):FE H a b=a b:=by unfold FE;rw[h]
theorem Yi {H a:Hp} {b:Addr} {o:Obj} {u:HO} (h:H b=none) (h':a b=some (.CK o u)):FE H a b=some u:=by unfold FE;rw[h,h']
theorem Gq {H a:Hp} {b:Addr} (h':a b=none):FE H a b=none:=by
 unfold FE
 rw[h']
 cases H b<;>rfl
theorem Jz {H a:Hp} {b:Addr} {u:HO} (h':a b=some u) (n:∀o z,u≠.CK o z):FE H a b=some u:=by
 unfold FE
 rw[h']
 cases H b with
 |some _=>rfl
 |none=>
  cases u<;>first|rfl|exact absurd rfl (n _ _)
def KF (K:ADv) (H:Hp):Prop:=∀b o,K.lookup b=some o->H b=none
section
variable{X:Cx} {pins aJ:List (Addr×Obj)} {σ σ':St} {H H':Hp} {s s':Shared}
theorem Inv.mV (I:Inv X pins σ H s) (a:Inv X aJ σ' H' s'):Inv X aJ σ' (FE H H') s':=by
 have B:=a.base
 refine⟨a.ok,a.os,a.bare,⟨B.keep,B.slot,fun b d q n h=>Gq (B.free b d q n h),B.there,fun b f q=>Jz (B.Iu b f q) (fun _ _ z=>by cases z),fun b d u q=>?_,fun b i q=>?_⟩,a.loc,a.cell,Gq a.free,fun x c q=>Gq (a.DS x c q),fun p j=>let⟨k,l,m⟩:=a.pin p j;⟨k,Gq l,m⟩,fun b u q=>?_,a.len⟩
 ·rw[Ry (I.base.Gy b d u q)]
  exact B.Gy b d u q
 ·obtain⟨more,t⟩:=B.Kf b i q
  exact⟨more,Jz t (fun _ _ z=>by cases z)⟩
 ·have up:∀{v:HO},Au X.prog X.w H' s'.heap b v->Au X.prog X.w (FE H H') s'.heap b v:=fun x=>x.Pk (fun c v _ r=>r) (fun c r=>Jz r (fun _ _ z=>by cases z)) fun c f r=>Jz r (fun _ _ z=>by cases z)
  unfold FE at q
  cases g:H b with
  |some o=>
   rw[g]at q
   exact up (a.BS b u q)
  |none=>
   rw[g]at q
   dsimp only at q
   split at q
   ·rename_i e
    cases q
    exact up (show Au X.prog X.w H' s'.heap b (.CK _ u)from a.BS b _ e).2
   ·exact up (a.BS b u q)
theorem Inv.kf (I:Inv X pins σ H s):KF X.K H:=fun b o e=>(I.bs b o (I.mod.eO b o e)).2
def mW (K:ADv) (t:TE):TE:=fun σ H Q=>t σ H fun v H'=>KF K (FE H H')->Q v (FE H H')
theorem J_ {e:Expr} {t:TE} (h:PE X e t):PE X e (mW X.K t):=fun pins s σ H Q I q=>
 BZ (h pins s σ H _ I q) fun u d ⟨v,f,a,b,c⟩=>have J:=I.mV a;⟨v,_,J,b,c J.kf⟩
end
section
variable{K:ADv} [Ar K]
theorem BY.one {K:ADv} {G:Hp} (kf:KF K G) {a:Addr} {xs ys:List V} (h:BY K G a xs) (h':BY K G a ys):xs=ys:=by
 rcases h with h|⟨o,f,n,e,_,g,_,r⟩<;>rcases h' with h'|⟨j,d,k,c,_,b,_,i⟩
 ·have z:=Rd.one h h' (fun o z e=>by cases e) (fun o z e=>by cases e)
  cases z
  rfl
 ·have:=kf _ _ c
  rcases h with r|⟨_,r⟩<;>rw[r]at this<;>cases this
 ·have:=kf _ _ e
  rcases h' with r|⟨_,r⟩<;>rw[r]at this<;>cases this
 ·rw[e]at c
  cases c
  rw[g]at b
  cases b
  exact r.inj i
theorem Rd.ne {G:Hp} {K:ADv} (kf:KF K G) {a:Addr} {u:HO} (h:Rd G a u) {o:Obj} (e:K.lookup a=Option.some o):False:=by
 have:=kf _ _ e
 rcases h with r|⟨_,r⟩<;>rw[r]at this<;>cases this
theorem BY.lst {G:Hp} (kf:KF K G) {a:Addr} {xs ys:List V} (h:BY K G a xs) (h':Rd G a (.lst ys)):False:=by
 rcases h with h|⟨o,_,_,e,_⟩
 ·cases Rd.one h h' (fun o z e=>by cases e) (fun o z e=>by cases e)
 ·exact h'.ne kf e
theorem BY.dK {G:Hp} (kf:KF K G) {a:Addr} {xs:List V} {ys:List (Key×V)} (h:BY K G a xs) (h':Rd G a (.dK ys)):False:=by
 rcases h with h|⟨o,_,_,e,_⟩
 ·cases Rd.one h h' (fun o z e=>by cases e) (fun o z e=>by cases e)
 ·exact h'.ne kf e
theorem Val.cN {G:Hp} {a:Addr} {t:Pt} (h:Val G (.ref a) t):(∃vs ts,t=.lst ts/\Rd G a (.lst vs)/\Aa G vs ts)∨(∃vs ts,t=.tup ts/\BY K G a vs/\Aa G vs ts)∨∃(kvs:List (Key×V)) (ks:List Str) (ts:List Pt),t=.BF ks ts/\Rd G a (.dK kvs)/\kvs.map (·.1)=ks.map Sum.inr/\Aa G (kvs.map (·.2)) ts:=by
 cases h with
 |lst h r=>exact .inl ⟨_,_,rfl,h,r⟩
 |tup h r=>exact .inr (.inl ⟨_,_,rfl,h,r⟩)
 |BF h b r=>exact .inr (.inr ⟨_,_,_,rfl,h,b,r⟩)
mutual
theorem Val.J' {G:Hp} (kf:KF K G):∀{v:V} {s:Pt},Val G v s->∀{t:Pt},Val G v t->s=t
 |_,_,.int i,_,h=>by cases h;rfl
 |_,_,.str x,_,h=>by cases h;rfl
 |_,_,.bl x,_,h=>by cases h;rfl
 |_,_,.lst b d,_,h=>by
  rcases h.cN with⟨_,_,rfl,a,c⟩|⟨_,_,rfl,a,c⟩|⟨_,_,_,rfl,a,f,c⟩
  ·cases Rd.one b a (fun o z e=>by cases e) (fun o z e=>by cases e)
   rw[Aa.J' kf d c]
  ·exact(a.lst kf b).elim
  ·cases Rd.one b a (fun o z e=>by cases e) (fun o z e=>by cases e)
 |_,_,.tup b d,_,h=>by
  rcases h.cN with⟨_,_,rfl,a,c⟩|⟨_,_,rfl,a,c⟩|⟨_,_,_,rfl,a,f,c⟩
  ·exact(b.lst kf a).elim
  ·cases BY.one kf b a
   rw[Aa.J' kf d c]
  ·exact(b.dK kf a).elim
 |_,_,.BF b g d,_,h=>by
  rcases h.cN with⟨_,_,rfl,a,c⟩|⟨_,_,rfl,a,c⟩|⟨_,_,_,rfl,a,f,c⟩
  ·cases Rd.one b a (fun o z e=>by cases e) (fun o z e=>by cases e)
  ·exact(a.dK kf b).elim
  ·cases Rd.one b a (fun o z e=>by cases e) (fun o z e=>by cases e)
   rw[Aa.J' kf d c,Ms (g.symm.trans f)]
theorem Aa.J' {G:Hp} (kf:KF K G):∀{vs:List V} {ss:List Pt},Aa G vs ss->∀{ts:List Pt},Aa G vs ts->ss=ts
 |_,_,.nil,_,h=>by cases h;rfl
 |_,_,.cons h r,_,h'=>by
  cases h' with
  |cons g q=>rw[Val.J' kf h g,Aa.J' kf r q]
end
theorem Val.cO {G:Hp} (kf:KF K G) (s:Pt) {v:V} {t:Pt} (h:Val G v s) (h':Val G v t):s=t:=Val.J' kf h h'
end
namespace Pt
mutual
def IZ:Pt->Nat
 |int _|str _|bl _=>0
 |lst xs=>1+BN xs
 |tup xs=>BN xs
 |BF _ xs=>BN xs
def BN:List Pt->Nat
 |[]=>0
 |x::r=>IZ x+BN r
end
mutual
theorem Lg:∀t:Pt,t.IZ<=t.size
 |int _|str _|bl _=>by simp only[IZ];lia
 |lst xs|tup xs|BF _ xs=>by have:=F_ xs;simp only[IZ,size];lia
theorem F_:∀xs:List Pt,BN xs<=AJ xs
 |[]=>Nat.le_refl _
 |x::r=>by have:=Lg x;have:=F_ r;simp only[BN,AJ];lia
end
mutual
def Ek:Pt->Nat
 |int _|str _|bl _=>0
 |lst xs|tup xs=>1+FF xs
 |BF _ xs=>1+FF xs
def FF:List Pt->Nat
 |[]=>0
 |x::r=>max (Ek x) (FF r)
end
theorem Ou:∀{xs:List Pt} {x:Pt},x∈xs->x.Ek<=FF xs
 |y::r,x,h=>by
  simp only[FF]
  rcases List.mem_cons.mp h with rfl|h
  ·lia
  ·have:=Ou h;lia
mutual
theorem Ov:∀t:Pt,t.Ek<=t.deep
 |int _|str _|bl _=>by simp only[Ek];lia
 |lst xs|tup xs|BF _ xs=>by have:=Lh xs;simp only[Ek,deep];lia
theorem Lh:∀xs:List Pt,FF xs<=AV xs
 |[]=>Nat.le_refl _
 |x::r=>by have:=Ov x;have:=Lh r;simp only[FF,AV];lia
end
theorem Gr:∀(a b:List Pt),BN (a++b)=BN a+BN b
 |[],b=>by simp[BN]
 |x::a,b=>by simp only[List.cons_append,BN,Gr a b];lia
theorem DP:∀(xs:List Pt) (i:Nat),BN (xs.take i)<=BN xs
 |[],i=>by simp
 |x::r,0=>by simp[BN]
 |x::r,i+1=>by have:=DP r i;simp only[List.take_succ_cons,BN];lia
theorem F' {xs:List Pt} {i:Nat} {x:Pt} (h:xs[i]?=some x):BN (xs.take (i+1))=BN (xs.take i)+x.IZ:=by
 rw[List.take_add_one,h,Gr]
 simp[BN]
end Pt
def Tq:Key:=Sum.inr "zzzzzzzz"
structure Wd (kvs cP:List (Key×V)):Prop where
 at_:∀(i:Nat) k v,cP[i]?=some (k,v)->kvs[i]?=some (k,v)∨v=.int 77
 keys:cP.map (·.1)=kvs.map (·.1)∨(Tq∉kvs.map (·.1)/\cP.map (·.1)=kvs.map (·.1)++[Tq])
theorem Wd.refl (kvs:List (Key×V)):Wd kvs kvs:=⟨fun _ _ _ h=>.inl h,.inl rfl⟩
theorem Wd.nd {kvs c:List (Key×V)} (h:Wd kvs c) (nd:(kvs.map (·.1)).Nodup):(c.map (·.1)).Nodup:=by
 rcases h.keys with e|⟨n,e⟩
 ·rw[e];exact nd
 ·rw[e]
  refine List.nodup_append.mpr ⟨nd,by simp,fun a f b d z=>?_⟩
  rw[List.mem_singleton]at d
  subst d
  subst z
  exact n f
theorem Wd.len {kvs a:List (Key×V)} (h:Wd kvs a):a.length<=kvs.length+1:=by
 rcases h.keys with e|⟨n,e⟩
 ·have:=congrArg List.length e;simp at this;lia
 ·have:=congrArg List.length e;simp at this;lia
theorem Wd.put {kvs a:List (Key×V)} (h:Wd kvs a):Wd kvs (putK a Tq (.int 77)):=by
 unfold putK
 by_cases c:(a.any fun d=>decide (d.1=Tq))=true
 ·rw[if_pos c]
  refine⟨fun i k v e=>?_,?_⟩
  ·rw[List.getElem?_map]at e
   cases g:a[i]? with
   |none=>rw[g]at e;cases e
   |some p=>
    rw[g]at e
    simp only[Option.map_some,Option.some.injEq]at e
    by_cases z:p.1=Tq
    ·rw[if_pos z]at e
     cases e
     exact .inr rfl
    ·rw[if_neg z]at e
     subst e
     exact h.at_ i k v g
  ·have e:(a.map fun d=>if d.1=Tq then(d.1,V.int 77)else d).map (·.1)=a.map (·.1):=by
    rw[List.map_map]
    refine List.map_congr_left fun p _=>?_
    show(if p.1=Tq then(p.1,V.int 77)else p).1=p.1
    split<;>rfl
   rw[e]
   exact h.keys
 ·rw[if_neg c]
  have b:Tq∉a.map (·.1):=fun z=>by
   obtain⟨p,j,e⟩:=List.mem_map.mp z
   exact c (List.any_eq_true.mpr ⟨p,j,decide_eq_true e⟩)
  rcases h.keys with e|⟨n,e⟩
  ·rw[e]at b
   refine⟨fun i k v g=>?_,.inr ⟨b,by rw[List.map_append,e];rfl⟩⟩
   rcases Nat.lt_or_ge i a.length with f|f
   ·rw[List.getElem?_append_left f]at g
    exact h.at_ i k v g
   ·rw[List.getElem?_append_right f]at g
    have:=ADu g
    rw[List.mem_singleton]at this
    cases this
    exact .inr rfl
  ·rw[e]at b
   exact absurd (List.mem_append_right _ (List.mem_singleton.mpr rfl)) b
inductive Wo (c:Nat):HO->HO->Prop
 |lst (xs:List V) (k:Nat) (b:k<=c):Wo c (.lst xs) (.lst (xs++List.replicate k (.int 77)))
 |tup (xs:List V):Wo c (.tup xs) (.tup xs)
 |BF (kvs a:List (Key×V)) (h:Wd kvs a):Wo c (.dK kvs) (.dK a)
theorem Wo.mono {c b:Nat} {u u':HO} (h:Wo c u u') (l:c<=b):Wo b u u':=by
 cases h with
 |lst a k d=>exact .lst a k (by lia)
 |tup a=>exact .tup a
 |BF _ _ h=>exact .BF _ _ h
def Plain:HO->Prop
 | .lst _| .tup _| .dK _=>True
 |_=>False
section
variable{K:ADv} [Ar K]
def Wn (G:Hp) (d c:Nat) (H:Hp):Prop:=∀b u t,Plain u->Rd G b u->Val G (.ref b) t->t.Ek<=d->∃a,H b=some a/\Wo c u a
def Gx (G:Hp) (d:Nat) (H a:Hp):Prop:=∀b o,H b=some o->a b=some o∨∃u t,Plain u/\Rd G b u/\Val G (.ref b) t/\t.Ek<=d
theorem Gx.refl {G H:Hp} {d:Nat}:Gx G d H H:=fun b o e=>.inl e
theorem Gx.of {G H a:Hp} {d:Nat} (s:AG H a):Gx G d H a:=fun b o e=>.inl (s b o e)
theorem Gx.trans {G H a H2:Hp} {d:Nat} (h:Gx G d H a) (h':Gx G d a H2):Gx G d H H2:=fun b o e=>by
 rcases h b o e with h|h
 ·exact h' b o h
 ·exact .inr h
theorem Gx.mono {G H a:Hp} {d d':Nat} (h:Gx G d H a) (l:d<=d'):Gx G d' H a:=fun b o e=>(h b o e).imp id fun⟨u,t,p,r,v,z⟩=>⟨u,t,p,r,v,by lia⟩
theorem Wn.mono {G H:Hp} {d d' c a:Nat} (h:Wn G d c H) (l:d'<=d) (f:c<=a):Wn G d' a H:=fun b u t p r v z=>
 let⟨g,e,w⟩:=h b u t p r v (by lia)
 ⟨g,e,w.mono f⟩
theorem Wn.up {G H a:Hp} {d c:Nat} (h:Wn G d c H) (s:AG H a):Wn G d c a:=fun b u t p r v z=>
 let⟨f,e,w⟩:=h b u t p r v z
 ⟨f,s _ _ e,w⟩
theorem Wn.next {G H a:Hp} (kf:KF K G) {d d' c g:Nat} (h:Wn G d c H) (h':Wn G d' g a) (f:Gx G d' H a) (l:c<=g):Wn G d g a:=fun b u t p r v z=>by
 rcases Nat.lt_or_ge d' t.Ek with i|i
 ·obtain⟨j,e,w⟩:=h b u t p r v z
  rcases f b j e with k|⟨_,n,_,_,m,z2⟩
  ·exact⟨j,k,w.mono l⟩
  ·rw[Val.cO kf t v m]at i
   lia
 ·exact h' b u t p r v i
theorem Gx.at_ {G H a:Hp} (kf:KF K G) {d:Nat} (f:Gx G d H a) {b:Addr} {o:HO} {t:Pt} (v:Val G (.ref b) t) (l:d<t.Ek) (e:H b=some o):a b=some o:=by
 rcases f b o e with c|⟨_,h,_,_,g,z2⟩
 ·exact c
 ·rw[Val.cO kf t v g]at l
  lia
def Wt (ts us:List Pt):Prop:=∀(i:Nat) u,us[i]?=some u->ts[i]?=some u∨u=.int 77
theorem Wt.take:∀{ts us:List Pt},Wt ts us->∀i:Nat,Pt.BN (us.take i)<=Pt.BN (ts.take i)
 |ts,[],h,i=>by simp[Pt.BN]
 |ts,u::us,h,0=>by simp[Pt.BN]
 |[],u::us,h,i+1=>by
  have e:u=.int 77:=by
   rcases h 0 u rfl with z|z
   ·simp at z
   ·exact z
  have:=Wt.take (ts:=[]) (us:=us) (fun j x a=>.inr (by
   rcases h (j+1) x (by simpa using a)with z|z
   ·simp at z
   ·exact z)) i
  simp only[List.take_succ_cons,List.take_nil,Pt.BN,e,Pt.IZ]at this⊢
  lia
 |t::ts,u::us,h,i+1=>by
  have:=Wt.take (ts:=ts) (us:=us) (fun j x a=>by
   have:=h (j+1) x (by simpa using a)
   simpa using this) i
  simp only[List.take_succ_cons,Pt.BN]
  rcases h 0 u rfl with z|z
  ·simp at z
   rw[z]
   lia
  ·rw[z]
   simp only[Pt.IZ]
   lia
theorem Pt.size_take {ts:List Pt} {i:Nat} {u:Pt} (h:ts[i]?=some u):u.size+Pt.BN (ts.take i)<=Pt.AJ ts:=by
 induction ts generalizing i with
 |nil=>simp at h
 |cons t r a=>
  cases i with
  |zero=>
   simp at h
   subst h
   simp[Pt.BN,Pt.AJ]
  |succ i=>
   have:=a (by simpa using h)
   have:=Pt.Lg t
   simp only[List.take_succ_cons,Pt.BN,Pt.AJ]
   lia
theorem Wt.size {ts us:List Pt} (h:Wt ts us) {i:Nat} {u:Pt} (b:us[i]?=some u):u.size+Pt.BN (us.take i)<=1+Pt.AJ ts:=by
 have a:=h.take i
 rcases h i u b with e|rfl
 ·have:=Pt.size_take e
  lia
 ·have:=Pt.DP ts i
  have:=Pt.F_ ts
  simp only[Pt.size]
  lia
theorem Wt.Ek {ts us:List Pt} (h:Wt ts us) {i:Nat} {u:Pt} (a:us[i]?=some u):u.Ek<=Pt.FF ts:=by
 rcases h i u a with e|rfl
 ·exact Pt.Ou (ADu e)
 ·simp only[Pt.Ek]
  lia
theorem Pt.Ow:∀{xs:List Pt},Pt.Ku xs->∀x∈xs,x.Oo
 |y::r,h,x,a=>by
  simp only[Pt.Ku]at h
  rcases List.mem_cons.mp a with rfl|a
  ·exact h.1
  ·exact Pt.Ow h.2 x a
theorem Wt.Oo {ts us:List Pt} (h:Wt ts us) (o:Pt.Ku ts) {i:Nat} {u:Pt} (a:us[i]?=some u):u.Oo:=by
 rcases h i u a with e|rfl
 ·exact Pt.Ow o u (ADu e)
 ·trivial
theorem Wt.lst {G:Hp} {vs:List V} {ts:List Pt} (r:Aa G vs ts) (k:Nat):∃us,Aa G (vs++List.replicate k (.int 77)) us/\Wt ts us:=by
 refine⟨ts++List.replicate k (.int 77),r.append (.of (by simp) fun i v t b c=>?_),fun i u h=>?_⟩
 ·have d:=List.eq_of_mem_replicate (ADu b)
  have e:=List.eq_of_mem_replicate (ADu c)
  rw[d,e]
  exact .int 77
 ·rcases Nat.lt_or_ge i ts.length with a|a
  ·rw[List.getElem?_append_left a]at h
   exact .inl h
  ·rw[List.getElem?_append_right a]at h
   exact .inr (List.eq_of_mem_replicate (ADu h))
theorem Wt.BF {G:Hp} {kvs a:List (Key×V)} {ts:List Pt} (r:Aa G (kvs.map (·.2)) ts) (w:Wd kvs a):∃us,Aa G (a.map (·.2)) us/\Wt ts us:=by
 suffices gen:∀n,n<=a.length->∃us,Aa G ((a.map (·.2)).take n) us/\us.length=n/\Wt ts us by
  obtain⟨us,b,_,c⟩:=gen a.length (Nat.le_refl _)
  refine⟨us,?_,c⟩
  rw[List.take_of_length_le (by simp)]at b
  exact b
 intro n
 induction n with
 |zero=>exact fun _=>⟨[],by simp;exact .nil,rfl,fun i u h=>by simp at h⟩
 |succ n k=>
  intro x
  obtain⟨us,b,c,l⟩:=k (by lia)
  obtain⟨p,f⟩:∃p,a[n]?=some p:=⟨_,ADr (by lia)⟩
  have m:(a.map (·.2))[n]?=some p.2:=by rw[List.getElem?_map,f];rfl
  have g:∀{t:Pt},Val G p.2 t->(ts[n]?=some t∨t=.int 77)->∃us,Aa G ((a.map (·.2)).take (n+1)) us/\us.length=n+1/\Wt ts us:=fun{t} o q=>by
   refine⟨us++[t],?_,by simp[c],fun i u h=>?_⟩
   ·rw[List.take_add_one,m]
    exact b.append (.cons o .nil)
   ·rcases Nat.lt_or_ge i us.length with j|j
    ·rw[List.getElem?_append_left j]at h
     exact l i u h
    ·have d:i=us.length:=by
      have:=(ADs h).1
      simp at this
      lia
     subst d
     simp at h
     subst h
     rw[c]
     exact q
  rcases w.at_ n p.1 p.2 f with e|e
  ·have:(kvs.map (·.2))[n]?=some p.2:=by rw[List.getElem?_map,e];rfl
   obtain⟨t,s,v⟩:=r.get this
   exact g v (.inl s)
  ·exact g (t:=.int 77) (by rw[e];exact .int 77) (.inr rfl)
theorem Ox:∀{kvs:List (Key×V)} {i:Nat} {k:Key} {v:V},(kvs.map (·.1)).Nodup->kvs[i]?=some (k,v)->CF kvs k=some v
 |[],i,k,v,_,h=>by simp at h
 |p::r,0,k,v,nd,h=>by
  simp at h
  subst h
  exact DE rfl
 |p::r,i+1,k,v,nd,h=>by
  simp only[List.getElem?_cons_succ]at h
  simp only[List.map_cons,List.nodup_cons]at nd
  have a:k∈r.map (·.1):=List.mem_map.mpr ⟨_,ADu h,rfl⟩
  rw[DF (fun e=>nd.1 (e▸a))]
  exact Ox nd.2 h
theorem Val.kinds {G:Hp} {v:V} {t:Pt} (h:Val G v t):(∃T:String,(∀H,aD K H v T)/\U_ T "dict"=false/\Vr T=false/\U_ T "list"=false/\t.IZ=0)∨(∃a vs ts,v=.ref a/\t=.lst ts/\Rd G a (.lst vs)/\Aa G vs ts)∨(∃a vs ts,v=.ref a/\t=.tup ts/\BY K G a vs/\Aa G vs ts)∨∃a kvs ks ts,v=.ref a/\t=.BF ks ts/\Rd G a (.dK kvs)/\kvs.map (·.1)=ks.map Sum.inr/\Aa G (kvs.map (·.2)) ts:=by
 cases h with
 |int i=>exact .inl ⟨"int",fun H=>.n (.int i),rfl,rfl,rfl,rfl⟩
 |str i=>exact .inl ⟨"str",fun H=>.n (.str i),rfl,rfl,rfl,rfl⟩
 |bl i=>exact .inl ⟨"bool",fun H=>.n (.bl i),rfl,rfl,rfl,rfl⟩
 |lst h r=>exact .inr (.inl ⟨_,_,_,rfl,rfl,h,r⟩)
 |tup h r=>exact .inr (.inr (.inl ⟨_,_,_,rfl,rfl,h,r⟩))
 |BF h b r=>exact .inr (.inr (.inr ⟨_,_,_,_,rfl,rfl,h,b,r⟩))
theorem Wn.change {G H:Hp} {d c:Nat} (h:Wn G d c H) {a:Addr} {u u':HO} (p:Plain u) (r:Rd G a u) (w:Wo c u u'):Wn G d c (upd H a u'):=fun b j t f g v z=>by
 by_cases i:b=a
 ·subst i
  have nf:∀{x:HO},Plain x->∀o z,x≠.CK o z:=fun k o z e=>by subst e;exact k
  rw[Rd.one g r (nf f) (nf p)]
  exact⟨u',AE,w⟩
 ·rw[AK i]
  exact h b j t f g v z
theorem Gx.change {G H c:Hp} {d:Nat} (h:Gx G d H c) {a:Addr} {u u':HO} {t:Pt} (p:Plain u) (r:Rd G a u) (v:Val G (.ref a) t) (l:t.Ek<=d):Gx G d H (upd c a u'):=fun b o e=>by
 by_cases f:b=a
 ·subst f
  exact .inr ⟨u,t,p,r,v,l⟩
 ·rw[AK f]
  exact h b o e
theorem WV {n:Nat} (h:n<=100010):n<sizeLine:=by rw[sizeLine_eq];lia
inductive Rz {K:ADv} [Ar K] (n:Nat) (vs:List V) (H:Hp) (Q:VK) (a:XK):Prop
 |mk (G:Hp) (v:V) (t:Pt) (c:Nat) (d:vs=[v]) (e:KF K G) (f:Val G v t) (g:t.Oo) (h:t.Ek<n) (i:t.size+c<=100000) (j:Wn G t.Ek c H) (k:∀(b:Hp),Wn G t.Ek (c+t.IZ) b->Gx G t.Ek H b->Q .BO b):Rz n vs H Q a
def Gs (n:Nat):Sp:=fun a H Q E=>Rz n a H Q E
end
section
variable{X:Cx} {tg:Expr}
end
namespace Ak
mutual
def jw:Ak->Nat
 |any=>0
 |Ao d=>d.wide
 |row xs _=>d_ xs
 |tab _ xs _ _=>d_ xs
def d_:List Ak->Nat
 |[]=>0
 |x::r=>max (jw x) (d_ r)
end
mutual
theorem aK:∀a:Ak,a.ok->a.jw<=20
 |any,_=>by simp only[jw];lia
 |Ao d,o=>by
  simp only[ok]at o
  have:=Pt.EC d o.2.1
  simp only[jw]
  lia
 |row b _,o=>by simp only[ok]at o;simp only[jw];exact Qr b o
 |tab _ b _ _,o=>by simp only[ok]at o;simp only[jw];exact Qr b o.2.2.2.2.2.2
theorem Qr:∀xs:List Ak,HU xs->d_ xs<=20
 |[],_=>by simp only[d_];lia
 |x::r,o=>by
  simp only[HU]at o
  have:=aK x o.1
  have:=Qr r o.2
  simp only[d_]
  lia
end
end Ak
section
variable{K:ADv} [Ar K]
inductive Tr {K:ADv} [Ar K] (n:Nat) (vs:List V) (H:Hp) (Q:VK) (e:XK):Prop
 |mk (w:V) (a:Ak) (l nm:Addr) (cs:List Int) (ys:List Str) (h:vs=[w,.ref l,.ref nm]) (i:Val (Dk l H) w a.pt) (j:a.Br) (k:a.jw<=59) (m:a.dp+22<=n) (f:a.dp<=20) (o:a.wt<=900) (p:H l=some (.lst (cs.map V.int))) (q:cs.length<=100) (r:nm≠l) (s:Ta H nm ys)
  (g:∀(v:V) (c:Ak) (b:List Int) (d:Hp),Bt (some l) H d->d l=some (.lst (b.map V.int))->b.length<=cs.length->Val (nw H d) v c.pt->Ak.Ot a c->Q v d):Tr n vs H Q e
end
namespace Ak
mutual
def Kv:Ak->Prop
 |any=>True
 |Ao _=>True
 |row xs _=>Ts xs
 |tab _ xs ls m=>(m=true->ls.length<=60/\ls.Nodup/\sortedS ls=true)/\Ts xs
def Ts:List Ak->Prop
 |[]=>True
 |x::r=>Kv x/\Ts r
end
mutual
theorem WW:∀a:Ak,a.ok->a.Kv
 |any,_=>trivial
 |Ao _,_=>trivial
 |row xs _,o=>by simp only[ok]at o;simp only[Kv];exact Mw xs o
 |tab _ xs _ _,o=>by simp only[ok]at o;simp only[Kv];exact⟨fun _=>o.2.2.2.2.1,Mw xs o.2.2.2.2.2.2⟩
theorem Mw:∀xs:List Ak,HU xs->Ts xs
 |[],_=>trivial
 |x::r,o=>by simp only[HU]at o;exact⟨WW x o.1,Mw r o.2⟩
end
theorem FG:∀{xs:List Ak},Ts xs->∀x∈xs,Kv x
 |y::r,h,x,a=>by
  simp only[Ts]at h
  rcases List.mem_cons.mp a with rfl|a
  ·exact h.1
  ·exact FG h.2 x a
mutual
def Pj:Ak->Prop
 |any=>True
 |Ao _=>True
 |row xs m=>(m=true∨Cp xs=none)/\Mx xs
 |tab ks xs ls m=>((m=true/\ls.length<=60/\ls.Nodup/\sortedS ls=true)∨(m=false/\ls=[]/\Cp xs=none))/\(∀l∈ls,l∉ks)/\Mx xs
def Mx:List Ak->Prop
 |[]=>True
 |x::r=>Pj x/\Mx r
end
theorem Oy:∀{xs:List Ak},Mx xs->∀x∈xs,Pj x
 |y::r,h,x,a=>by
  simp only[Mx]at h
  rcases List.mem_cons.mp a with rfl|a
  ·exact h.1
  ·exact Oy h.2 x a
theorem Oz {cs:List Ak} (m:Bool) (h:Mx cs):(Bo cs m).Pj:=by
 unfold Bo
 cases m with
 |true=>rw[if_pos rfl];exact⟨.inl rfl,h⟩
 |false=>
  rw[if_neg (by decide)]
  cases e:Cp cs with
  |some a=>trivial
  |none=>exact⟨.inr e,h⟩
theorem O_ {ss:List Str} {cs:List Ak} {ls:List Str} (m:Bool) (s:m=true->ls.length<=60/\ls.Nodup/\sortedS ls=true) (a:∀l∈ls,l∉ss) (h:Mx cs):(Bp ss cs ls m).Pj:=by
 unfold Bp
 cases m with
 |true=>rw[if_pos rfl];exact⟨.inl ⟨rfl,s rfl⟩,a,h⟩
 |false=>
  rw[if_neg (by decide)]
  cases e:Cp cs with
  |some c=>trivial
  |none=>exact⟨.inr ⟨rfl,rfl,e⟩,fun l b=>(nomatch b),h⟩
mutual
theorem Good.Pj:∀{a b:Ak},Good a b->a.Br->a.Kv->b.Pj
 |_,_,.any,_,_=>trivial
 |_,_,.Ao _,_,_=>trivial
 |_,_,.row (m:=m) h,o,s=>by
  simp only[Ak.Br]at o
  simp only[Ak.Kv]at s
  exact Oz m (h.Pj (Bg o) (FG s))
 |_,_,.tab (m:=m) d p e h,o,s=>by
  simp only[Ak.Br]at o
  simp only[Ak.Kv]at s
  obtain⟨g,i,q,r,t,j,k⟩:=o
  have f:=Cu g i d e
  exact O_ m s.1 (fun l n w=>j l n (d.mem_iff.mp w)) (h.Pj (fun x c=>Bg k x (f.mem_iff.mp c)) (fun x c=>FG s.2 x (f.mem_iff.mp c)))
theorem CZ.Pj:∀{as cs:List Ak},CZ as cs->(∀a∈as,a.Br)->(∀a∈as,a.Kv)->Mx cs
 |_,_,.nil,_,_=>trivial
 |_,_,.cons h r,o,s=>⟨h.Pj (o _ List.mem_cons_self) (s _ List.mem_cons_self),r.Pj (fun x b=>o x (List.mem_cons_of_mem _ b)) (fun x b=>s x (List.mem_cons_of_mem _ b))⟩
end
def word:Ak->Str
 |any=>"any"
 |Ao _=>"just"
 |row _ _=>"row"
 |tab _ _ _ _=>"table"
theorem Li:∀{xs:List Ak},Cp xs=none->∃(i:Nat) (x:Ak),xs[i]?=some x/\x.word≠"just"
 |[],h=>by simp[Cp]at h
 |x::r,h=>by
  cases x with
  |Ao d=>
   simp only[Cp,Option.map_eq_none_iff]at h
   obtain⟨i,y,a,b⟩:=Li h
   exact⟨i+1,y,by simpa using a,b⟩
  |any=>exact⟨0,_,rfl,by simp only[word];decide⟩
  |row _ _=>exact⟨0,_,rfl,by simp only[word];decide⟩
  |tab _ _ _ _=>exact⟨0,_,rfl,by simp only[word];decide⟩
end Ak
section
variable{K:ADv} [Ar K]
mutual
theorem Val.cQ {G H:Hp} (s:∀b u,Plain u->Rd G b u->Rd H b u):∀{v:V} {t:Pt},Val G v t->Val H v t
 |_,_,.int i=>.int i
 |_,_,.str i=>.str i
 |_,_,.bl i=>.bl i
 |_,_,.lst h r=>.lst (s _ _ trivial h) (Aa.cQ s r)
 |_,_,.tup h r=>.tup (h.imp (s _ _ trivial) id) (Aa.cQ s r)
 |_,_,.BF h a r=>.BF (s _ _ trivial h) a (Aa.cQ s r)
theorem Aa.cQ {G H:Hp} (s:∀b u,Plain u->Rd G b u->Rd H b u):∀{vs:List V} {ts:List Pt},Aa G vs ts->Aa H vs ts
 |_,_,.nil=>.nil
 |_,_,.cons h r=>.cons (Val.cQ s h) (Aa.cQ s r)
end
def WX (G H:Hp):Prop:=∀b u,Plain u->Rd G b u->H b=some u
theorem WX.up {G H a:Hp} (p:WX G H) (s:AG H a):WX G a:=fun b u c r=>s _ _ (p b u c r)
theorem WX.val {G H:Hp} (p:WX G H) {v:V} {t:Pt} (h:Val G v t):Val H v t:=h.cQ fun b u a r=>.inl (p b u a r)
theorem Plain.nf {u:HO} (h:Plain u):∀o z,u≠.CK o z:=fun o z e=>by subst e;exact h
theorem WX.FE {H c:Hp}:WX (nw H c) (L2.FE H c):=fun b u d r=>by
 cases a:H b with
 |some o=>
  rcases r with r|⟨e,r⟩<;>(rw[DK a]at r;cases r)
 |none=>
  rcases r with r|⟨e,r⟩<;>rw[Av a]at r
  ·exact Jz r d.nf
  ·exact Yi a r
theorem Wn.of {G H:Hp} (p:WX G H) (d:Nat):Wn G d 0 H:=fun b u t e r v z=>⟨u,p b u e r,by
 cases u with
 |lst a=>have:=Wo.lst (c:=0) a 0 (Nat.le_refl _);simpa using this
 |tup a=>exact .tup a
 |dK kvs=>exact .BF _ _ (.refl kvs)
 |_=>exact absurd e id⟩
theorem Gx.out {G a H c:Hp} {d:Nat} (f:Gx G d H c) (s:AG a H) (o:∀b x,a b=some x->G b=none):AG a c:=fun b x e=>by
 rcases f b x (s b x e)with h|⟨u,t,_,r,_⟩
 ·exact h
 ·have:=o b x e
  rcases r with r|⟨_,r⟩<;>rw[this]at r<;>cases r
theorem Val.word {H:Hp} {v:V} {a:Ak} (h:Val H v a.pt):∃(t:Addr) (rest:List V),v=.ref t/\BY K H t (.str a.word::rest):=by
 obtain⟨c,i,rest,rfl,e,f⟩:=h.ak
 rcases f with⟨rfl,rfl,rfl⟩|⟨d,u,rfl,rfl,rfl,b⟩|⟨g,m,u,rfl,rfl,rfl,b⟩|⟨j,g,k,m,u,z,rfl,rfl,rfl,b,l⟩
 ·exact⟨c,_,rfl,e⟩
 ·exact⟨c,_,rfl,e⟩
 ·exact⟨c,_,rfl,e⟩
 ·exact⟨c,_,rfl,e⟩
theorem Ak.kinds {G:Hp} {v:V} {g:Ak} (s:Val G v g.pt) (b:g.Br) (e:g.Pj) {n:Nat} (i:g.deep<=n+1) (r:g.size<=900):∃(j:Addr) (f:Str) (rest:List V),v=.ref j/\BY K G j (.str f::rest)/\
  ((f="any"/\rest=[])∨(f="just"/\∃u,rest=[u])∨∃(xs:List Ak) (m:Bool),Ak.Mx xs/\Ak.El xs/\Ak.AV xs<=n/\Ak.AJ xs<=900/\(m=true∨Ak.Cp xs=none)/\Na (.str f::rest) (-1)=some (.bl m)/\
   ((f="row"/\∃(a:Addr) (vs:List V),rest=[.ref a,.bl m]/\Rd G a (.lst vs)/\Aa G vs (Ak.Fh xs))∨(f="table"/\∃(a:Addr) (kvs:List (Key×V)) (ks:List Str) (k:Addr) (ls:List Str),rest=[.ref a,.ref k,.bl m]/\Rd G a (.dK kvs)/\kvs.map (·.1)=ks.map Sum.inr/\Aa G (kvs.map (·.2)) (Ak.Fh xs)/\Rd G k (.lst (ls.map V.str))/\((m=true/\ls.length<=60/\ls.Nodup/\sortedS ls=true)∨(m=false/\ls=[]))/\∀l∈ls,l∉ks))):=by
 obtain⟨j,f,rest,rfl,t,w⟩:=s.ak
 refine⟨j,f,rest,rfl,t,?_⟩
 rcases w with⟨rfl,rfl,rfl⟩|⟨d,u,rfl,rfl,rfl,c⟩|⟨xs,m,u,rfl,rfl,rfl,c⟩|⟨ks,xs,ls,m,u,z,rfl,rfl,rfl,c,x⟩
 ·exact .inl ⟨rfl,rfl⟩
 ·exact .inr (.inl ⟨rfl,_,rfl⟩)
 ·simp only[Ak.Br]at b
  simp only[Ak.Pj]at e
  simp only[Ak.deep]at i
  simp only[Ak.size]at r
  obtain⟨a,vs,rfl,o,p⟩:=c.YR
  exact .inr (.inr ⟨xs,m,e.2,b,by lia,by lia,e.1,rfl,.inl ⟨rfl,a,vs,rfl,o,p⟩⟩)
 ·simp only[Ak.Br]at b
  simp only[Ak.Pj]at e
  simp only[Ak.deep]at i
  simp only[Ak.size]at r
  obtain⟨a,kvs,rfl,o,q,p⟩:=c.cC
  obtain⟨k,B,rfl,y,A⟩:=x.YR
  have:=Fx A
  subst this
  exact .inr (.inr ⟨xs,m,e.2.2,b.2.2.2.2.2.2,by lia,by lia,e.1.imp (fun h=>h.1) (fun h=>h.2.2),rfl,.inr ⟨rfl,a,kvs,ks,k,ls,rfl,o,q,p,y,e.1.imp id (fun h=>⟨h.1,h.2.1⟩),e.2.1⟩⟩)
inductive Lj {K:ADv} [Ar K] (n:Nat) (vs:List V) (H:Hp) (Q:VK) (b:XK):Prop
 |mk (G:Hp) (v:V) (a:Ak) (e:vs=[v]) (d:WX G H) (f:Val G v a.pt) (g:a.Br) (h:a.Pj) (i:a.deep<=n) (j:a.size<=900) (k:∀c,AG H c->Q (.bl true) c):Lj n vs H Q b
def FH (n:Nat):Sp:=fun a H Q E=>Lj n a H Q E
end
theorem gO:bootBuiltins "set"=some (.type "set"):=by decide+kernel
section
variable{X:Cx}
def IF (v d:Addr):HO:=.ext fun h=>h.IsValuesView v d
inductive Lk (x:V) (vs:List V) (H:Hp) (Q:VK):Prop
 |mk (d:Addr) (kvs:List (Key×V)) (a:x=.ref d) (b:vs=[]) (c:Rd H d (.dK kvs)) (e:∀v,H v=none->Q (.ref v) (upd H v (IF v d))):Lk x vs H Q
def WY:V->List V->Hp->VK->Prop:=fun x a H Q=>Lk x a H Q
theorem Qs:fZ X "dict.values" WY:=by
 intro pins s r H x t v u Q I g i h
 obtain⟨l,kvs,rfl,rfl,j,q⟩:=h
 cases g
 have a:=i.zero
 subst a
 obtain⟨z,m,n,p,c⟩:=(show Au X.prog X.w H s.heap l (.dK kvs)from j.ok I.BS)
 refine call_meetsIn PySem.F.slot_dict_values c.typeIs PySem.F.entry_dict_values (PySem.F.args_dict_values_1 _) (meets_dict_values (An X.prog X.w) l m) ⟨⟨n,c⟩,?_⟩
 have d:(s.heap.push {cls:=.type "dict_values",data:=.fields #[.ref l]}).get? s.heap.objs.size=some {cls:=.type "dict_values",data:=.fields #[.ref l]}:=Heap.get?_push_size _ rfl
 exact⟨.ref s.heap.objs.size,_,I.laid (o:=IF s.heap.objs.size l) (t':=s.toks) (fun b o e=>Heap.get?_push_of_some _ e) (Nat.le_refl _) ⟨⟨_,d,rfl,rfl⟩,⟨_,d⟩,fun y A ⟨f,z1,z2⟩ k=>⟨f,k f z1,z2⟩⟩,rfl,q _ I.fresh⟩
inductive O' (xs:List V) (H:Hp) (Q:VK):Prop
 |mk (r:Addr) (d:Addr) (kvs:List (Key×V)) (a:xs=[.ref r]) (b:H r=some (IF r d)) (c:Rd H d (.dK kvs)) (e:∀l,H l=none->Q (.ref l) (upd H l (.lst (kvs.map (·.2))))):O' xs H Q
def Yj:List V->Hp->VK->Prop:=fun a H Q=>O' a H Q
theorem KV.mX {kvs:List (Key×V)} {vs:List (Key×Value)} (r:KV kvs vs):Vals (kvs.map (·.2)) (vs.map (·.2)):=by
 induction r with
 |nil=>exact .nil
 |cons h _ a=>exact .cons h.2 a
theorem Ia (k:X.calm=true):BD X (.type "list") Yj:=by
 intro pins s E H F G Q I r h
 obtain⟨e,d,kvs,rfl,l,m,q⟩:=h
 obtain⟨u,rfl,n⟩:=vals1 r
 cases n
 obtain⟨a,_⟩:=(show Au X.prog X.w H s.heap e (IF e d)from I.BS e _ l)
 obtain⟨z,hd,g,c,o⟩:=(show Au X.prog X.w H s.heap d (.dK kvs)from m.ok I.BS)
 obtain⟨ep,f⟩:=o.dictAt
 refine PySem.W.kdl_call (PySem.W.kdl_values (knd:=An X.prog X.w) (kvs:=g) (ep:=ep)) (I.ok.hd k) ⟨a,f⟩ (by rw[<-c.length];exact z) fun p t b x y A i=>?_
 have B:(kvs.map (·.2)).length<=sizeLine:=by rw[List.length_map];exact z
 have C:b.toList=g.map (·.2):=PySem.W.kdl_vals_eq b.toList (by rw[Array.length_toList];exact i.1) fun j v D=>i.2 j v (by rw[<-Array.getElem?_toList];exact D)
 refine⟨.ref s.heap.objs.size,_,I.laid (t':=t) y (Nat.le_refl _) (show Au X.prog X.w _ p _ (.lst _)from⟨B,b.toList,x,?_,by rw[Array.toArray_toList];exact A⟩),rfl,q _ I.fresh⟩
 rw[C]
 exact c.mX
end
namespace Ak
theorem WZ (a:Ak):∃ps,a.pt=.tup ps:=by cases a<;>exact⟨_,rfl⟩
mutual
theorem My:∀a:Ak,a.deep<=a.dp
 |any=>by simp only[deep,dp];lia
 |Ao d=>by have:=Pt.D' d;simp only[deep,dp];lia
 |row b _=>by have:=KA b;simp only[deep,dp];lia
 |tab _ b _ _=>by have:=KA b;simp only[deep,dp];lia
theorem KA:∀xs:List Ak,AV xs<=Jj xs
 |[]=>Nat.le_refl _
 |x::r=>by have:=My x;have:=KA r;simp only[AV,Jj];lia
end
theorem strs_size:∀ls:List Str,Pt.AJ (ls.map Pt.str)=ls.length
 |[]=>rfl
 |x::r=>by have:=strs_size r;simp only[List.map_cons,Pt.AJ,Pt.size,List.length_cons];lia
mutual
theorem R_:∀a:Ak,a.Br->a.pt.size<=110*a.wt
 |any,_=>by simp only[pt,wt,Pt.size,Pt.AJ];lia
 |Ao d,_=>by have:=Pt.size_pos d;simp only[pt,wt,Pt.size,Pt.AJ];lia
 |row b _,o=>by simp only[Br]at o;have:=KC b o;simp only[pt,wt,Pt.size,Pt.AJ];lia
 |tab e b c _,o=>by
  simp only[Br]at o
  have:=KC b o.2.2.2.2.2.2
  have:=o.2.2.2.2.1
  have:=strs_size c
  simp only[pt,wt,Pt.size,Pt.AJ]
  lia
theorem KC:∀xs:List Ak,El xs->Pt.AJ (Fh xs)<=110*Dm xs
 |[],_=>by simp only[Fh,Dm,Pt.AJ];lia
 |x::r,o=>by simp only[El]at o;have:=R_ x o.1;have:=KC r o.2;simp only[Fh,Dm,Pt.AJ];lia
end
end Ak
theorem AG.FE {H a:Hp} (s:AG H a):AG H (L2.FE H a):=fun b o e=>by rw[Ry e];exact s b o e
theorem R' {H a:Hp} {b:Addr} (h:L2.FE H a b=none):a b=none:=by
 cases e:a b with
 |none=>rfl
 |some u=>
  unfold L2.FE at h
  rw[e]at h
  cases c:H b with
  |some o=>rw[c]at h;cases h
  |none=>
   rw[c]at h
   cases u<;>simp at h
theorem KF.nw {K:ADv} {H a:Hp} (k:KF K (L2.FE H a)):KF K (L2.nw H a):=fun b o e=>by
 have:=R' (k b o e)
 unfold L2.nw
 cases H b with
 |none=>exact this
 |some _=>rfl
section
variable{K:ADv} [Ar K]
structure Told (H H':Hp) (v:V) (g:Ak):Prop where
 s:AG H (L2.FE H H')
 p:WX (L2.nw H H') (L2.FE H H')
 k:KF K (L2.nw H H')
 v:Val (L2.nw H H') v g.pt
theorem Told.of {H a:Hp} {v:V} {g:Ak} (s:AG H a) (h:Val (L2.nw H a) v g.pt) (k:KF K (L2.FE H a)):Told H a v g:=⟨s.FE,.FE,k.nw,h⟩
theorem Told.val {H a H2:Hp} {v:V} {g:Ak} (t:Told H a v g) (s:AG (L2.FE H a) H2):Val H2 v g.pt:=(t.p.up s).val t.v
theorem Told.out {H c a h H2:Hp} {v:V} {g:Ak} (t:Told H c v g) {d:Nat} (f:Gx (L2.nw H c) d h H2) (s:AG a h) (o:∀b x,a b=some x->H b≠none):AG a H2:=f.out s fun b x e=>by
 cases i:H b with
 |none=>exact absurd i (o b x e)
 |some y=>exact DK i
theorem Told.past {H a i j k H2:Hp} {v:V} {g:Ak} (t:Told H a v g) (m:AG (L2.FE H a) i) {d:Nat} (f:Gx (L2.nw H a) d k H2) (s:AG (L2.nw i j) k):AG (L2.nw i j) H2:=f.out s fun b x e=>by
 cases c:L2.nw H a b with
 |none=>rfl
 |some y=>
  exfalso
  have n:H b=none:=by
   cases h:H b with
   |none=>rfl
   |some z=>rw[DK h]at c;cases c
  rw[Av n]at c
  have o:L2.FE H a b≠none:=fun z=>by rw[R' z]at c;cases c
  cases l:L2.FE H a b with
  |none=>exact o l
  |some z=>
   have:=m _ _ l
   rw[DK this]at e
   cases e
end
namespace Pt
def Gu:Pt->Key->Option Pt
 | .lst xs,.inl i=>if 0<=i then xs[i.toNat]? else none
 | .BF ks xs,.inr k=>lk ks xs k
 |_,_=>none
def sub:Pt->List Key->Option Pt
 |t,[]=>some t
 |t,k::p=>(t.Gu k).bind fun u=>sub u p
theorem Yk {t u:Pt} {k:Key} (h:t.Gu k=some u):(∃xs,t=.lst xs/\u∈xs)∨∃ks xs,t=.BF ks xs/\u∈xs:=by
 cases t with
 |lst xs=>
  cases k with
  |inl i=>
   simp only[Gu]at h
   by_cases z:0<=i
   ·rw[if_pos z]at h;exact .inl ⟨xs,rfl,ADu h⟩
   ·rw[if_neg z]at h;cases h
  |inr x=>cases h
 |BF ks xs=>
  cases k with
  |inl i=>cases h
  |inr x=>exact .inr ⟨ks,xs,rfl,(CM h).2⟩
 |int _=>cases k<;>cases h
 |str _=>cases k<;>cases h
 |bl _=>cases k<;>cases h
 |tup _=>cases k<;>cases h
theorem Qt {t u:Pt} {k:Key} (d:t.doc) (h:t.Gu k=some u):u.doc/\u.size<t.size/\u.deep<t.deep:=by
 rcases Yk h with⟨a,rfl,m⟩|⟨b,a,rfl,m⟩
 ·simp only[doc]at d
  have:=Bj m
  have:=BC m
  simp only[size,deep]
  exact⟨Ba d u m,by lia,by lia⟩
 ·simp only[doc]at d
  have:=Bj m
  have:=BC m
  simp only[size,deep]
  exact⟨Ba d.2.2.2.2 u m,by lia,by lia⟩
theorem Yl {d t e:Pt} {k:Key} (f:d.doc) (h:Pt.Bw d t=true) (b:d.Gu k=some e):∃u,t.Gu k=some u/\Pt.Bw e u=true:=by
 cases d with
 |lst g=>
  cases t with
  |lst c=>
   cases k with
   |inr x=>cases b
   |inl i=>
    simp only[Gu]at b⊢
    by_cases z:0<=i
    ·rw[if_pos z]at b⊢
     obtain⟨l,a⟩:=Ak.Jw.mp (show Pt.DJ g c=true from h)
     obtain⟨u,j⟩:∃u,c[i.toNat]?=some u:=⟨_,ADr (by have:=(ADs b).1;lia)⟩
     exact⟨u,j,a _ _ _ b j⟩
    ·rw[if_neg z]at b;cases b
  |_=>simp[Pt.Bw]at h
 |BF o g=>
  cases t with
  |BF n c=>
   cases k with
   |inl i=>cases b
   |inr x=>
    simp only[Gu]at b⊢
    simp only[doc]at f
    simp only[Pt.Bw,Bool.and_eq_true,beq_iff_eq]at h
    have:=h.2
    rw[Hb,GX _ f.1 f.2.1,List.all_eq_true]at this
    have:=this x (CM b).1
    rw[b]at this
    cases m:lk n c x with
    |none=>rw[m]at this;cases this
    |some u=>rw[m]at this;exact⟨u,rfl,this⟩
  |_=>simp[Pt.Bw]at h
 |int _=>cases k<;>cases b
 |str _=>cases k<;>cases b
 |bl _=>cases k<;>cases b
 |tup _=>cases k<;>cases b
end Pt
namespace Ak
def Ec:Ak->Key->Option Ak
 |Ao d,k=>(d.Gu k).map Ao
 |row xs _,.inl i=>if 0<=i then xs[i.toNat]? else none
 |tab ks xs _ _,.inr k=>lk ks xs k
 |_,_=>none
def sub:Ak->List Key->Option Ak
 |a,[]=>some a
 |a,k::p=>(a.Ec k).bind fun b=>sub b p
theorem Ed {r:List Key}:∀{p:List Key} {a:Ak},a.sub (p++r)=(a.sub p).bind fun b=>b.sub r
 |[],a=>rfl
 |k::p,a=>by
  simp only[List.cons_append,sub]
  cases a.Ec k with
  |none=>rfl
  |some b=>exact Ed (p:=p) (a:=b)
theorem Qu {a b:Ak} {k:Key} (o:a.Br) (s:a.Kv) (h:a.Ec k=some b):b.Br/\b.Kv/\b.wt<a.wt/\b.dp<a.dp:=by
 cases a with
 |any=>cases k<;>cases h
 |Ao d=>
  simp only[Ec,Option.map_eq_some_iff]at h
  obtain⟨u,f,rfl⟩:=h
  simp only[Br]at o
  obtain⟨g,j,l⟩:=Pt.Qt o f
  exact⟨g,trivial,j,l⟩
 |row e m=>
  cases k with
  |inr x=>cases h
  |inl i=>
   simp only[Ec]at h
   by_cases z:0<=i
   ·rw[if_pos z]at h
    have c:=ADu h
    simp only[Br]at o
    simp only[Kv]at s
    have:=Gg c
    have:=Gh c
    simp only[wt,dp]
    exact⟨Bg o b c,FG s b c,by lia,by lia⟩
   ·rw[if_neg z]at h;cases h
 |tab n e p m=>
  cases k with
  |inl i=>cases h
  |inr x=>
   have c:=(CM (show lk n e x=some b from h)).2
   simp only[Br]at o
   simp only[Kv]at s
   have:=Gg c
   have:=Gh c
   simp only[wt,dp]
   exact⟨Bg o.2.2.2.2.2.2 b c,FG s.2 b c,by lia,by lia⟩
theorem Mz:∀{p:List Key} {a b:Ak},a.Br->a.Kv->a.sub p=some b->b.Br/\b.Kv/\b.wt<=a.wt/\p.length+b.dp<=a.dp
 |[],a,b,o,s,h=>by cases h;exact⟨o,s,Nat.le_refl _,by simp⟩
 |k::p,a,b,o,s,h=>by
  simp only[sub]at h
  cases d:a.Ec k with
  |none=>rw[d]at h;cases h
  |some c=>
   rw[d]at h
   obtain⟨e,f,j,h4⟩:=Qu o s d
   obtain⟨g,i,l,m⟩:=Mz e f h
   simp only[List.length_cons]
   exact⟨g,i,by lia,by lia⟩
theorem Wa {a b:Ak} {t:Pt} {k:Key} (o:a.Br) (d:t.doc) (l:a.lets t=true) (h:a.Ec k=some b):∃u,t.Gu k=some u/\u.doc/\b.lets u=true:=by
 suffices∃u,t.Gu k=some u/\b.lets u=true by
  obtain⟨u,f,n⟩:=this
  exact⟨u,f,(Pt.Qt d f).1,n⟩
 cases a with
 |any=>cases k<;>cases h
 |Ao e=>
  simp only[Ec,Option.map_eq_some_iff]at h
  obtain⟨u,f,rfl⟩:=h
  simp only[Br]at o
  exact Pt.Yl o (show Pt.Bw e t=true from l) f
 |row p m=>
  cases k with
  |inr x=>cases h
  |inl i=>
   simp only[Ec]at h
   by_cases z:0<=i
   ·rw[if_pos z]at h
    cases t with
    |lst g=>
     obtain⟨c,e⟩:=CU.mp l
     have:=(ADs h).1
     obtain⟨u,j⟩:∃u,g[i.toNat]?=some u:=⟨_,ADr (by lia)⟩
     exact⟨u,by simp only[Pt.Gu];rw[if_pos z];exact j,e _ _ _ h j⟩
    |_=>simp[lets]at l
   ·rw[if_neg z]at h;cases h
 |tab q p r m=>
  cases k with
  |inl i=>cases h
  |inr x=>
   cases t with
   |BF s g=>
    simp only[Br]at o
    simp only[lets,Bool.and_eq_true]at l
    exact(Le o.1 o.2.1).mp l.2 x b h
   |_=>simp[lets]at l
theorem PB:∀{p:List Key} {a b:Ak} {t:Pt},a.Br->a.Kv->t.doc->a.lets t=true->a.sub p=some b->∃u,t.sub p=some u/\u.doc/\u.size<=t.size/\b.lets u=true
 |[],a,b,t,_,_,d,l,h=>by cases h;exact⟨t,rfl,d,Nat.le_refl _,l⟩
 |k::p,a,b,t,o,s,d,l,h=>by
  simp only[sub]at h
  cases e:a.Ec k with
  |none=>rw[e]at h;cases h
  |some c=>
   rw[e]at h
   obtain⟨u,f,g,i⟩:=Wa o d l e
   obtain⟨j,m,_,_⟩:=Qu o s e
   have:=(Pt.Qt d f).2.1
   obtain⟨v,n,q,w,r⟩:=PB j m g i h
   exact⟨v,by simp only[Pt.sub];rw[f];exact n,q,by lia,r⟩
def nK (n:Nat):List Key:=(List.range n).map fun(j:Nat)=>Sum.inl (j:Int)
theorem Wb {p:List Key} {a b:Ak} {k:Key} {i:Nat} (h:a.sub (p.take i)=some b) (e:p[i]?=some k):a.sub (p.take (i+1))=b.Ec k:=by
 rw[List.take_add_one,e,Ed,h]
 show(b.sub [k])=_
 simp only[sub]
 cases b.Ec k<;>rfl
theorem Ym {p:List Key} {a:Ak} {i:Nat} (h:a.sub (p.take i)=none):a.sub p=none:=by
 rw[<-List.take_append_drop i p,Ed,h];rfl
theorem SA {xs:List Ak} {m:Bool} {k:Key}:(Pt.lst (Fh xs)).Gu k=((row xs m).Ec k).map pt:=by
 cases k with
 |inr x=>rfl
 |inl i=>
  simp only[Pt.Gu,Ec,BH]
  split
  ·rw[List.getElem?_map]
  ·rfl
theorem SD {ks ls:List Str} {xs:List Ak} {m:Bool} {k:Key}:(Pt.BF ks (Fh xs)).Gu k=((tab ks xs ls m).Ec k).map pt:=by
 cases k with
 |inl i=>rfl
 |inr x=>simp only[Pt.Gu,Ec,BH,Fw]
structure NL (a:Ak) (ks:List Key) (bs:List Ak):Prop where
 e:ks.map a.Ec=bs.map some
 w:1+Dm bs<=a.wt
 c:∀k b,a.Ec k=some b->k∈ks
 n:∀i:Int,Sum.inl i∈ks->i<(ks.length:Int)
 h:(∃n:Nat,ks=nK n)∨∃ss:List Str,ks=ss.map Sum.inr
theorem NL.none {a:Ak} (h:∀k,a.Ec k=none):NL a [] []:=⟨rfl,by have:=cH a;simp only[Dm];lia,fun k b e=>by rw[h k]at e;(cases e),fun i h=>(nomatch h),.inr ⟨[],rfl⟩⟩
theorem GA:∀{a b:List Ak},Dm (a++b)=Dm a+Dm b
 |[],b=>by simp only[List.nil_append,Dm];lia
 |x::r,b=>by simp only[List.cons_append,Dm,GA (a:=r)];lia
theorem Wc {bs:List Ak} {i:Nat} {b:Ak} (h:bs[i]?=some b):Dm (bs.take (i+1))=Dm (bs.take i)+b.wt/\Dm (bs.take (i+1))<=Dm bs:=by
 constructor
 ·rw[List.take_add_one,h,GA]
  simp only[Option.toList,Dm]
  lia
 ·conv=>rhs;rw[<-List.take_append_drop (i+1) bs,GA]
  lia
theorem KD:∀{xs:List Pt},Dm (xs.map Ao)=Pt.AJ xs
 |[]=>rfl
 |x::r=>by simp only[List.map_cons,Dm,wt,Pt.AJ,KD (xs:=r)]
theorem Tt {b:Type} (f:Key->Option b) {xs:List b} (h:∀i:Nat,f (Sum.inl (i:Int))=xs[i]?):(nK xs.length).map f=xs.map some:=by
 unfold nK
 apply List.ext_getElem?
 intro i
 rw[List.getElem?_map,List.getElem?_map,List.getElem?_map]
 by_cases a:i<xs.length
 ·rw[List.getElem?_range a,ADr a]
  simp only[Option.map_some,h,ADr a]
 ·rw[List.getElem?_eq_none (by simpa using a),List.getElem?_eq_none (by simpa using a)]
  rfl
theorem NL.list {a:Ak} {xs:List Ak} (w:1+Dm xs<=a.wt) (h:∀i:Int,a.Ec (.inl i)=if 0<=i then xs[i.toNat]? else .none) (g:∀x,a.Ec (.inr x)=.none):NL a (nK xs.length) xs:=by
 refine⟨Tt _ fun i=>?_,w,fun k b e=>?_,fun i c=>?_,.inl ⟨_,rfl⟩⟩
 ·rw[h,if_pos (by lia),Int.toNat_natCast]
 ·cases k with
  |inr x=>rw[g]at e;cases e
  |inl i=>
   rw[h]at e
   by_cases z:0<=i
   ·rw[if_pos z]at e
    exact List.mem_map.mpr ⟨i.toNat,List.mem_range.mpr (ADs e).1,by rw[Int.toNat_of_nonneg z]⟩
   ·rw[if_neg z]at e;cases e
 ·obtain⟨j,d,f⟩:=List.mem_map.mp c
  have:=List.mem_range.mp d
  have l:(j:Int)=i:=Sum.inl.inj f
  unfold nK
  rw[List.length_map,List.length_range]
  lia
theorem NL.gP {a:Ak} {ks ss:List Str} {xs as:List Ak} (l:ks.length=xs.length) (nd:ks.Nodup) (w:1+Dm xs<=a.wt) (d:ss.Perm ks) (e:ss.map (lk ks xs)=as.map some) (h:∀x,a.Ec (.inr x)=lk ks xs x) (g:∀i,a.Ec (.inl i)=.none):NL a (ss.map Sum.inr) as:=by
 refine⟨?_,by rw[Oc (Cu l nd d e)];exact w,fun k b c=>?_,fun i f=>?_,.inr ⟨_,rfl⟩⟩
 ·rw[<-e,List.map_map]
  exact List.map_congr_left fun x _=>h x
 ·cases k with
  |inl i=>rw[g]at c;cases c
  |inr x=>rw[h]at c;exact List.mem_map.mpr ⟨x,d.mem_iff.mpr (CM c).1,rfl⟩
 ·obtain⟨j,n,m⟩:=List.mem_map.mp f
  cases m
end Ak
inductive aM (x:V) (y:V) (H:Hp) (Q:VK):Prop
 |mk (a:_) (b:_) (xs:_) (ys:_) (d:x=.ref a) (e:y=.ref b) (f:H a=some (.tup xs)) (g:H b=some (.tup ys)) (h:xs.length+ys.length<=sizeLine) (i:∀p c,AG H c->c p=some (.tup (xs++ys))->((ys=[]/\p=a)∨p=b∨H p=none)->Q (.ref p) c):aM x y H Q
theorem Yn {X:Cx}:DC X (binaryOp .Add) aM:=by
 intro pins s E H x y v u Q I r t h
 obtain⟨a,b,w,G,rfl,rfl,j,k,J,q⟩:=h
 by_cases l:w=[]
 ·cases r
  cases t
  obtain⟨c,K,L,_⟩:=I.tuple (BY.of j)
  obtain⟨d,T,M,_⟩:=I.tuple (BY.of k)
  obtain⟨⟨N,O,data,P⟩,z,A,n,B⟩:=id L
  obtain⟨⟨C,m,data2,o⟩,f,g,R,i⟩:=id M
  simp only at A B g i
  subst A B g i
  have S:c=[]:=K.GF.mpr l
  refine concat_meets ⟨_,z,rfl⟩ ⟨_,f,rfl⟩ noFill_tuple_add seq_tuple_add PySem.F.slot_tuple_add PySem.F.entry_tuple_add (PySem.F.args_tuple_add_2 _ _)
   (tuple_addW0 a b c.toArray d.toArray n R O m P o (by simp[S])) ⟨z,f,?_⟩
  refine⟨.ref b,H,I.tok s.toks,rfl,q b H (AG.refl H) ?_ (.inr (.inl rfl))⟩
  rw[l]
  exact k
 ·refine RO pins s E H (.ref a) (.ref b) v u Q I r t ⟨a,b,w,G,rfl,rfl,BY.of j,BY.of k,l,J,fun e=>?_,fun e p D=>q p _ (AG.new D) AE (.inr (.inr D))⟩
  refine q a H (AG.refl H) ?_ (.inl ⟨e,rfl⟩)
  rw[e,List.append_nil]
  exact j
theorem Ll (cs:List Int) (lo a:Option Int):∃c:List Int,Ki (cs.map V.int) lo a=c.map V.int/\c.length<=cs.length:=by
 unfold Ki
 rw[<-List.map_drop,<-List.map_take]
 exact⟨_,rfl,by rw[List.length_take,List.length_drop];lia⟩
namespace Ak
def LP (xs:List Ak) (us:List Pt):Prop:=∀(j:Nat) x y,xs[j]?=some x->us[j]?=some y->lets x y=true
theorem LP.snoc {xs:List Ak} {us:List Pt} {a:Ak} {t:Pt} {i:Nat} (h:LP xs us) (d:us.length=i) (f:xs[i]?=some a) (l:a.lets t=true):LP xs (us++[t]):=fun j x y c b=>by
 by_cases z:j<us.length
 ·rw[List.getElem?_append_left z]at b;exact h j x y c b
 ·by_cases e:j=us.length
  ·subst e
   rw[List.getElem?_append_right (Nat.le_refl _),Nat.sub_self]at b
   rw[d,f]at c
   cases c
   cases b
   exact l
  ·rw[List.getElem?_eq_none (by rw[List.length_append,List.length_singleton];lia)]at b
   cases b
theorem LP.row {xs:List Ak} {us a:List Pt} {m:Bool} (h:LP xs us) (d:us.length=xs.length) (e:a=[]∨m=true):lets (.row xs m) (.lst (us++a))=true:=by
 refine CU.mpr ⟨?_,fun j x y b c=>?_⟩
 ·rw[List.length_append]
  rcases e with rfl|e
  ·exact .inl (by simp[d])
  ·by_cases z:a.length=0
   ·exact .inl (by lia)
   ·exact .inr ⟨e,by lia⟩
 ·have z:=(ADs b).1
  rw[List.getElem?_append_left (by lia)]at c
  exact h j x y b c
structure LT (ks:List Str) (xs:List Ak) (ls:List Str) (m:Bool) (ns:List Str) (us:List Pt):Prop where
 a:∀k∈ls,k∉ns
 l:ns.length=ks.length∨(m=true/\ks.length<ns.length)
 e:∀k x,lk ks xs k=some x->∃y,lk ns us k=some y/\lets x y=true
theorem LT.lets {ks ls b:List Str} {xs:List Ak} {us:List Pt} {m:Bool} (h:LT ks xs ls m b us) (l:ks.length=xs.length) (nd:ks.Nodup):Ak.lets (.tab ks xs ls m) (.BF b us)=true:=
 (CA l nd).mpr ⟨fun k c=>by
  obtain⟨x,d⟩:=FP l c
  obtain⟨y,f,_⟩:=h.e k x d
  exact(CM f).1,h.a,h.l,h.e⟩
theorem LT.of {ks ls ss:List Str} {xs as:List Ak} {us:List Pt} {m:Bool} (l:ks.length=xs.length) (nd:ks.Nodup) (a:ss.Perm ks) (e:ss.map (lk ks xs)=as.map some) (q:us.length=as.length) (h:LP as us) (dj:∀k∈ls,k∉ks):LT ks xs ls m ss us:=by
 have g:as.length=ss.length:=by have:=congrArg List.length e;simpa using this.symm
 refine⟨fun k i z=>dj k i (a.mem_iff.mp z),.inl a.length_eq,fun k x c=>?_⟩
 obtain⟨j,b⟩:=List.getElem?_of_mem (a.mem_iff.mpr (CM c).1)
 have n:=(ADs b).1
 obtain⟨y,d⟩:∃y,us[j]?=some y:=⟨_,ADr (by lia)⟩
 have o:as[j]?=some x:=by
  have:=congrArg (fun z=>z[j]?) e
  simp only[List.getElem?_map,b,Option.map_some,c]at this
  cases f:as[j]? with
  |none=>rw[f]at this;cases this
  |some w=>rw[f]at this;cases this;rfl
 have p:lk ss us k=some y:=by
  have:=congrArg (fun z=>z[j]?) (Ga (ks:=ss) (xs:=us) (by lia) (a.nodup_iff.mpr nd))
  simp only[List.getElem?_map,b,d,Option.map_some]at this
  exact ADt this
 exact⟨y,p,h j x y o d⟩
theorem LT.put {ks ls d b:List Str} {xs:List Ak} {us c:List Pt} {m:Bool} {y:Str} (h:LT ks xs ls m d us) (f:m=true) (j:y∉ks) (hl:y∉ls) (n:∀k∈b,k∈d∨k=y) (p:d.length<=b.length) (o:∀k,k≠y->lk b c k=lk d us k):LT ks xs ls m b c:=by
 refine⟨fun k g z=>?_,?_,fun k x i=>?_⟩
 ·rcases n k z with z|e
  ·exact h.a k g z
  ·exact hl (by rw[<-e];exact g)
 ·rcases h.l with z|⟨_,z⟩
  ·by_cases w:b.length=ks.length
   ·exact .inl w
   ·exact .inr ⟨f,by lia⟩
  ·exact .inr ⟨f,by lia⟩
 ·rw[o k (fun z=>j (by rw[<-z];exact(CM i).1))]
  exact h.e k x i
end Ak
section
variable{K:ADv} [Ar K]
def Yo (H:Hp) (p:Addr) (ks:List Key):Prop:=H p=some (.tup (ks.map kV))
theorem Yo.up {H a:Hp} {p:Addr} {ks:List Key} (h:Yo H p ks) (s:AG H a):Yo a p ks:=s _ _ h
inductive cR (H:Hp) (v:V) (k:Key) (w:V):Prop
 |pl (a:Addr) (xs:List V) (j:Nat) (b:v=.ref a) (c:Rd H a (.lst xs)) (e:kV k=.int (j:Int)) (d:xs[j]?=some w):cR H v k w
 |nm (a:Addr) (kvs:List (Key×V)) (b:v=.ref a) (c:Rd H a (.dK kvs)) (d:CF kvs k=some w):cR H v k w
theorem Val.Qv {H:Hp} {v:V} {t u:Pt} {k:Key} (h:Val H v t) (e:t.Gu k=some u):∃w,Val H w u/\cR H v k w:=by
 cases t with
 |lst f=>
  cases k with
  |inr x=>cases e
  |inl i=>
   simp only[Pt.Gu]at e
   by_cases z:0<=i
   ·rw[if_pos z]at e
    obtain⟨a,c,rfl,b,r⟩:=h.YR
    obtain⟨w,hw⟩:∃w,c[i.toNat]?=some w:=⟨_,ADr (by have:=(ADs e).1;have:=r.length;lia)⟩
    obtain⟨n,d,g⟩:=r.get hw
    rw[e]at d
    cases d
    exact⟨w,g,.pl a c i.toNat rfl b (by show V.int i=_;rw[Int.toNat_of_nonneg z]) hw⟩
   ·rw[if_neg z]at e;cases e
 |BF o f=>
  cases k with
  |inl i=>cases e
  |inr x=>
   obtain⟨a,kvs,rfl,b,j,r⟩:=h.cC
   rcases Val.EV j r x with⟨w,l,k1,k2,m⟩|⟨_,k2⟩
   ·have:l=u:=ADt (k2.symm.trans e)
    subst this
    exact⟨w,m,.nm a kvs rfl b k1⟩
   ·exact absurd (k2.symm.trans e) (fun z=>nomatch z)
 |int _=>cases k<;>cases e
 |str _=>cases k<;>cases e
 |bl _=>cases k<;>cases e
 |tup _=>cases k<;>cases e
theorem PD {w:Str}:∀{ks:List Key},Pe (.str w) (ks.map kV)=false->(Sum.inr w:Key)∉ks
 |[],_=>fun h=>nomatch h
 |k::r,h=>by
  unfold Pe at h
  rw[List.map_cons,List.any_cons,Bool.or_eq_false_iff]at h
  have b:=PD (ks:=r) h.2
  intro a
  rcases List.mem_cons.mp a with e|a
  ·subst e
   have:MN (.str w) (.str w)=false:=h.1
   simp[MN]at this
  ·exact b a
theorem flat_keys:∀ks:List Key,(ks.map kV).all CI=true
 |[]=>rfl
 |k::r=>by
  rw[List.map_cons,List.all_cons,flat_keys r]
  cases k<;>rfl
theorem Ak.NL.vm {a:Ak} {ks:List Key} {bs:List Ak} (h:Ak.NL a ks bs) {i:Int} (d:(ks.length:Int)<=i):a.Ec (.inl i)=Option.none:=by
 cases e:a.Ec (.inl i)with
 |none=>rfl
 |some b=>have:=h.n i (h.c _ _ e);lia
theorem Ak.NL.out {a:Ak} {ks:List Key} {bs:List Ak} (h:Ak.NL a ks bs) {k:Key} (d:k∉ks):a.Ec k=Option.none:=by
 cases e:a.Ec k with
 |none=>rfl
 |some b=>exact absurd (h.c _ _ e) d
inductive Lm (vs:List V) (H:Hp) (Q:VK):Prop
 |mk (v:V) (t:Pt) (k:Key) (a:vs=[v,kV k]) (b:Val H v t) (c:DY t) (d:Q (.bl (t.Gu k).isSome) H):Lm vs H Q
def KG:Sp:=fun a H Q _=>Lm a H Q
inductive Ln (vs:List V) (H:Hp) (Q:VK):Prop
 |mk (v:V) (a:Ak) (p:Addr) (ks:List Key) (d:vs=[v,.ref p]) (e:Val H v a.pt) (f:a.Br) (g:a.Kv) (h:a.wt<=900) (i:Yo H p ks) (j:∀w b c,a.sub ks=some b->AG H c->Val c w b.pt->Q w c) (k:a.sub ks=none->∀c,AG H c->Q .BO c):Ln vs H Q
def KH:Sp:=fun a H Q _=>Ln a H Q
inductive Lo (vs:List V) (H:Hp) (Q:VK):Prop
 |mk (v:V) (a:Ak) (p:Addr) (ks:List Key) (d:vs=[v,.ref p]) (e:Val H v a.pt) (f:a.Br) (h:a.Kv) (i:a.wt<=900) (j:Yo H p ks) (k:∀b w g c,a.sub ks=some b->AG H c->Val (nw H c) w g.pt->Ak.Good b g->Q w c) (l:a.sub ks=none->∀c,AG H c->Q .BO c):Lo vs H Q
def KI:Sp:=fun a H Q _=>Lo a H Q
inductive PF (vs:List V) (H:Hp) (Q:VK):Prop
 |mk (G:Hp) (v:V) (a b:Ak) (k:Key) (d:vs=[v,kV k]) (s:AG G H) (e:Val G v a.pt) (f:a.Br) (g:a.Ec k=some b) (h:∀w c,AG H c->Val (ov G H c) w b.pt->Q w c):PF vs H Q
def Iq:Sp:=fun a H Q _=>PF a H Q
inductive Lp (vs:List V) (H:Hp) (Q:VK):Prop
 |mk (v:V) (a:Ak) (c:vs=[v]) (d:Val H v a.pt) (e:a.Br) (f:a.wt<=900) (g:∀(p:Addr) (ks:List Key) (bs:List Ak) (b:Hp),AG H b->H p=none->b p=some (.lst (ks.map kV))->Ak.NL a ks bs->Q (.ref p) b):Lp vs H Q
def FI:Sp:=fun a H Q _=>Lp a H Q
inductive We (H:Hp) (a:Ak) (ks:List Key) (w:V):Prop
 |mk (t p:Addr) (u:V) (r:List Key) (b:Ak) (c:w=.ref t) (d:H t=some (.tup [.ref p,u])) (e:Yo H p (ks++r)) (f:a.sub r=some b) (g:Val H u b.pt):We H a ks w
theorem We.up {H c:Hp} {a:Ak} {ks:List Key} {w:V} (h:We (K:=K) H a ks w) (s:AG H c):We (K:=K) c a ks w:=by
 obtain⟨t,p,u,r,b,d,e,f,g,i⟩:=h
 exact⟨t,p,u,r,b,d,s _ _ e,f.up s,g,i.up s⟩
theorem We.into {H:Hp} {a b:Ak} {ks:List Key} {k:Key} {w:V} (h:We (K:=K) H b (ks++[k]) w) (e:a.Ec k=some b):We (K:=K) H a ks w:=by
 obtain⟨t,p,u,r,c,f,g,d,i,j⟩:=h
 exact⟨t,p,u,k::r,c,f,g,by rw[List.append_assoc]at d;exact d,by simp only[Ak.sub];rw[e];exact i,j⟩
theorem Wg {G H a:Hp} (s:AG G H) {b:Addr} (h:H b=none):ov G H a b=a b:=by
 unfold ov
 rw[s.free h,Av h]
theorem Wh {G H a d:Hp} {D:Addr} (m:AG G H) (s:AG H a) (k:AG a d) (l:a D≠none):AG (ov (Dk D (ov G H a)) a d) (Dk D (ov G H d)):=fun b o e=>by
 by_cases f:b=D
 ·subst f
  unfold ov at e
  unfold Dk at e
  rw[if_pos rfl]at e
  cases h:a b with
  |none=>exact absurd h l
  |some z=>simp only at e;rw[DK h]at e;cases e
 ·rw[DM f]
  unfold ov at e
  rw[DM f]at e
  unfold ov
  cases i:G b with
  |some z=>rw[i]at e;exact e
  |none=>
   rw[i]at e
   simp only at e⊢
   cases c:nw H a b with
   |some z=>
    rw[c]at e
    cases j:H b with
    |some y=>rw[DK j]at c;cases c
    |none=>rw[Av j]at c⊢;cases e;exact k _ _ c
   |none=>
    rw[c]at e
    simp only at e
    cases g:a b with
    |some y=>rw[DK g]at e;cases e
    |none=>rw[Av g]at e;rw[Av (s.free g)];exact e
theorem M_ {G H a c:Hp} (s:AG a c):AG (ov G H a) (ov G H c):=fun b o e=>by
 unfold ov at e⊢
 cases d:G b with
 |some z=>rw[d]at e;exact e
 |none=>
  rw[d]at e
  simp only at e⊢
  cases f:H b with
  |some y=>rw[DK f]at e;cases e
  |none=>rw[Av f]at e⊢;exact s _ _ e
theorem KJ {D:Addr} {H a:Hp} (s:AG H a):AG (Dk D H) (Dk D a):=fun b o e=>by
 by_cases c:b=D
 ·subst c;unfold Dk at e;rw[if_pos rfl]at e;cases e
 ·rw[DM c]at e⊢;exact s _ _ e
theorem SE {G H c:Hp} {D:Addr} {o:HO}:AG (Dk D (ov G H c)) (Dk D (ov G H (upd c D o))):=fun b u e=>by
 by_cases a:b=D
 ·subst a;unfold Dk at e;rw[if_pos rfl]at e;cases e
 ·rw[DM a]at e⊢
  unfold ov at e⊢
  cases d:G b with
  |some z=>rw[d]at e;exact e
  |none=>
   rw[d]at e
   simp only at e⊢
   cases f:H b with
   |some y=>rw[DK f]at e;cases e
   |none=>rw[Av f]at e⊢;rw[AK a];exact e
inductive SF (n:Nat) (vs:List V) (H:Hp) (Q:VK):Prop
 |mk (G:Hp) (v:V) (a:Ak) (p:Addr) (ks:List Key) (c:vs=[v,.ref p]) (s:AG G H) (d:Val G v a.pt) (e:a.Br) (f:a.Kv) (g:a.wt<=900) (h:Yo G p ks) (i:ks.length+a.dp<=100) (j:a.dp+3<=n) (k:∀(D:Addr) (ws:List V) (b:Hp),AG H b->H D=none->b D=some (.lst ws)->ws.length<=a.wt->(∀w∈ws,We (K:=K) (ov G H b) a ks w)->Q (.ref D) b):SF n vs H Q
def KL (n:Nat):Sp:=fun a H Q _=>SF (K:=K) n a H Q
inductive Lq (vs:List V) (H:Hp) (Q:VK):Prop
 |mk (v:V) (a:Ak) (nm:Addr) (ys:List Str) (c:vs=[v,.ref nm]) (d:Val H v a.pt) (e:a.Br) (f:a.wt<=900) (g:Ta H nm ys) (h:∀(D:Addr) (ks:List Key) (b:Hp),AG H b->b D=some (.lst (ks.map kV))->ks.length<=10->(∀k∈ks,a.Ec k=none)->Q (.ref D) b):Lq vs H Q
def KN:Sp:=fun a H Q _=>Lq a H Q
inductive PH (vs:List V) (H:Hp) (Q:VK):Prop
 |mk (v:V) (t u:Pt) (p:Addr) (ks:List Key) (a:vs=[v,.ref p]) (b:Val H v t) (c:Yo H p ks) (d:t.sub ks=some u) (e:∀w,Val H w u->Q w H):PH vs H Q
def M':Sp:=fun a H Q _=>PH a H Q
def KO (n:Nat):Sp:=fun e H Q _=>∃(w:V) (a:Ak) (l nm:Addr) (d:List Int) (f:List Str),e=[w,.ref l,.ref nm]/\Val (Dk l H) w a.pt/\a.ok/\a.deep+8<=n/\a.size<=100/\H l=some (.lst (d.map V.int))/\d.length<=100/\nm≠l/\Ta H nm f/\
 ∀(v:V) (t:Pt) (b:List Int) (c:Hp),Bt (some l) H c->c l=some (.lst (b.map V.int))->b.length<=d.length->Val (nw H c) v t->t.doc->t.size<=10*a.size->t.deep<=a.deep+2->t.wide<=61->a.lets t=true->Q v c
end
end L2
namespace By
open PySem L2
def top (i:Nat):Stmt:=PySem.Challenge.pw_patchbough_k46_asks_at_a_path.main.body.getD i (.Pass ⟨0,0,0,0⟩)
abbrev Cy:Stmt:=top 1
abbrev Fb:Stmt:=top 2
abbrev DQ:Stmt:=top 4
abbrev EE:Stmt:=top 5
abbrev Cb:Stmt:=top 6
abbrev Fc:Stmt:=top 7
abbrev Hv:Stmt:=top 9
abbrev Cz:Stmt:=top 12
abbrev CP:Stmt:=top 13
abbrev Fe:Stmt:=top 14
abbrev Cc:Stmt:=top 15
abbrev C_:Stmt:=top 16
abbrev C':Stmt:=top 17
abbrev EF:Stmt:=top 18
abbrev Cd:Stmt:=top 19
abbrev Ff:Stmt:=top 20
abbrev Ce:Stmt:=top 21
abbrev Lr:Stmt:=top 23
abbrev Qw:Stmt:=top 24
abbrev Hy:Stmt:=top 25
abbrev Tu:Stmt:=top 26
abbrev KP:Stmt:=top 27
abbrev KQ:Stmt:=top 28
abbrev KR:Stmt:=top 29
abbrev Qx:Stmt:=top 30
abbrev KS:Stmt:=top 31
abbrev Ee:Stmt:=top 32
abbrev Ls:Stmt:=top 33
abbrev Hz:Stmt:=top 34
abbrev KU:Stmt:=top 35
abbrev Fg:Stmt:=top 36
abbrev Lu:Stmt:=top 37
abbrev H_:Stmt:=top 38
abbrev NA:Stmt:=top 39
inductive aN {a:Type} (b c:a->Prop):Prop
 |mk (d:a) (e:b d) (f:c d):aN b c
inductive aO {c d:Type} (e f g h i j k l m:c->d->Prop):Prop
 |mk (a:c) (b:d) (n:e a b) (o:f a b) (p:g a b) (q:h a b) (h4:i a b) (r:j a b) (s:k a b) (t:l a b) (u:m a b):aO e f g h i j k l m
inductive Wi {d e f:Type} (h i j k l m n o p q g:d->e->f->Prop):Prop
 |mk (a:d) (b:e) (c:f) (s:h a b c) (t:i a b c) (u:j a b c) (v:k a b c) (h4:l a b c) (w:m a b c) (x:n a b c) (y:o a b c) (z:p a b c) (A:q a b c) (r:g a b c):Wi h i j k l m n o p q g
inductive aP {a b c d:Type} (i j k l:a->b->c->d->Prop):Prop
 |mk (e:a) (f:b) (g:c) (h:d) (m:i e f g h) (n:j e f g h) (o:k e f g h) (p:l e f g h):aP i j k l
end By
namespace By
open PySem L2
section
variable{P:Program} {w:World} {K:ADv} [Ar K] {mg:Str->Option Value} {base:Heap}
theorem KW:Ah ["root","inner","found","at"] ["root","inner"] (AI Cy):=⟨rfl,rfl,rfl,by decide+kernel,rfl,by decide+kernel,by decide+kernel⟩
theorem PJ {C:Addr} {j:FuncData} {f:Addr} {fd:FuncData} (F:Ct K "gathered" "gathered" Cy f fd) (T:Txt mg) (kI:PySem.W.keepIn K (.ref C)=true) (bI:Binds K j ["node"] []) (GI:BG P w K mg base CW 3 C j ["node"] Jo):BG P w K mg base CW 4 f fd ["root","inner"] (Ml C):=by
 refine F.ok KW (fun vs H Q E h=>?_) (fun IV A outer s H vs Q E hr h=>?_)
 ·obtain⟨G,v,t,n,rfl,sG,hv,u,d,q⟩:=h
  rfl
 ·obtain⟨G,v,t,n,rfl,sG,hv,u,d,q⟩:=h
  have nd:=KW.nd
  have hu:=BU hr
  have J:Al 3 _:=hr.mono (by decide)
  refine⟨_,(AF (AY (i:=2) nd rfl (Or.inl rfl) (A_ (AA (pv 0) AB)))
   (AF (AY (i:=3) nd rfl (Or.inl rfl) AD)
   (AF (NS PassesOwn.never (AR Iy (pv 3) (AM Ad rfl T.len PySem.boot_len (AA (pv 2) AB)) (AZ _)) (AF (Cs (JD PySem.F.plainAttrs_list PySem.F.slot_list_extend PySem.F.type_list_extend LF (pv 2) (AA (Ja (pv 1) GI J kI bI .nil AX (AA (AO (r:=B' K) As (pv 2) (pv 3) (fun _ _=>rfl)) AB)) AB)))
   (AH (AY (i:=3) nd rfl (Or.inl rfl) (AS Bq (pv 3) AD)))))
   (AH (AN (pv 2)))))),?_⟩
  refine⟨_,rfl,Bf,fun L M=>?_⟩
  have s0:=AG.new (o:=.lst [v]) M
  dsimp only[Eo,Pp]
  refine Rb (fun m N D=>∃(c:List V) (l:List Pt) (b:List (List Pt)) (k:Nat),N=[some v,some (.ref C),some (.ref L),some (.int (k:Int))]/\AG H D/\D L=some (.lst c)/\Aa G c l/\Tf t k l b/\k<=l.length/\ED m (l.drop k)/\k+m=n)
   (n+0) ⟨[v],[t],[],0,rfl,s0,AE,.cons hv .nil,.start,by simp,.cons u .nil,by simp⟩ ?_ (fun N H Q Q' h ⟨v1,e1,v2,e2,a1,n1,e3,l1,i1,j1,e4,e5,b1,e6,q⟩=>⟨v1,e1,v2,e2,a1,n1,e3,l1,i1,j1,e4,e5,b1,e6,h _ _ q⟩)
  rintro m N D ⟨c,l,b,k,rfl,O,a,I,bf,hkl,R,hk⟩
  have le:=I.length
  refine⟨_,rfl,_,rfl,L,_,rfl,.inl (Ap.of a),_,_,rfl,rfl,_,rfl,?_⟩
  have ld:=R.len
  rw[List.length_drop]at ld
  refine Us (fun S=>?_) (fun S=>?_)
  ·have U:k<c.length:=by
    have:=of_decide_eq_true S
    omega
   obtain⟨x,hx⟩:∃x,c[k]?=some x:=⟨_,ADr U⟩
   obtain⟨tx,g,vx⟩:=I.get hx
   obtain⟨n',X,nx⟩:=gM R hk g d
   refine⟨_,rfl,.inl ⟨rfl,_,Ap.of a⟩,_,rfl,rfl,_,rfl,_,rfl,L,_,_,_,rfl,rfl,Ap.of a,Aq hx,G,x,tx,n',rfl,sG.trans O,vx,nx,X,fun p Y us H2 s2 np hp y kd=>?_⟩
   obtain⟨_,lu,m',Z,B,ek⟩:=YX R hk g kd d
   have vn:=y.length
   have zQ:=B.len
   rw[List.length_drop,List.length_append]at zQ
   refine⟨L,p,_,_,rfl,rfl,s2 _ _ a,hp,Ab (by omega),_,rfl,_,_,rfl,rfl,m',Z,c++Y,l++us,b++[us],k+1,rfl,(O.trans s2).put M,AE,I.append y,.next bf g kd,by rw[List.length_append];omega,B,by omega⟩
  ·have hge:c.length<=k:=by
    refine Nat.le_of_not_lt fun z=>S (decide_eq_true ?_)
    omega
   have e:k=l.length:=by omega
   subst e
   exact⟨_,rfl,q L c l b D O M a I bf (by omega)⟩
end
end By
namespace By
open PySem L2
section
variable{P:Program} {w:World} {K:ADv} [Ar K] {mg:Str->Option Value} {base:Heap}
theorem PK:Ah ["root","inner","join","found","told","end","at","start"] ["root","inner","join"] (AI Fb):=⟨rfl,rfl,rfl,by decide+kernel,rfl,by decide+kernel,by decide+kernel⟩
theorem Tv {Z fJ:Addr} {vo vp:FuncData} {f:Addr} {fd:FuncData} (F:Ct K "folded" "folded" Fb f fd) (T:Txt mg) (g:Df P w K mg base "gathered" ["root","inner"] 4 (Ml Z)) (kI:PySem.W.keepIn K (.ref Z)=true) (bI:Binds K vo ["node"] []) (GI:BG P w K mg base CW 3 Z vo ["node"] Jo) (kJ:PySem.W.keepIn K (.ref fJ)=true) (bJ:Binds K vp ["asks","told"] []) (GJ:BG P w K mg base CW 5 fJ vp ["asks","told"] Jr):BG P w K mg base CW 6 f fd ["root","inner","join"] (Mm Z fJ):=by
 obtain⟨N,O,k,m,t,u⟩:=g.ex
 refine F.ok PK (fun vs H Q E h=>?_) (fun IV A outer s H vs Q E hr h=>?_)
 ·obtain⟨G,v,a,rfl,sG,hv,R,Wj,q⟩:=h
  rfl
 ·obtain⟨G,v,a,rfl,sG,hv,R,Wj,q⟩:=h
  have nd:=PK.nd
  have hu:=BU hr
  have d:Al 4 _:=hr.mono (by first|decide|omega)
  have zR:Al 3 _:=hr.mono (by decide)
  have zS:Al 5 _:=hr.mono (by decide)
  refine⟨_,(AF (AY (i:=3) nd rfl (Or.inl rfl) (AL u d rfl t k m .nil AX (AA (pv 0) (AA (pv 1) AB))))
   (AF (AY (i:=4) nd rfl (Or.inl rfl) (AS Ul (A_ (AA EI AB)) (AM Ad rfl T.len PySem.boot_len (AA (pv 3) AB))))
   (AF (AY (i:=5) nd rfl (Or.inl rfl) (AM Ad rfl T.len PySem.boot_len (AA (pv 3) AB)))
   (AF (CD PassesOwn.never rfl (Td rfl T.range (AA (AS G_ (AM Ad rfl T.len PySem.boot_len (AA (pv 3) AB)) AD) (AA (UU Py AD) (AA (UU Py AD) AB)))) (Bh (i:=6) nd rfl (Or.inl rfl)) (AF (AY (i:=7) nd rfl (Or.inl rfl) (AS G_ (pv 5) (AM Ad rfl T.len PySem.boot_len (AA (Ja (pv 1) GI zR kI bI .nil AX (AA (AO (r:=B' K) As (pv 3) (pv 6) (fun _ _=>rfl)) AB)) AB))))
   (AF (UR (Ja (pv 2) GJ zS kJ bJ .nil AX (AA (AO (r:=B' K) As (pv 3) (pv 6) (fun _ _=>rfl)) (AA (DD (r:=Xn K) MM (pv 4) (DV (pv 7)) (DV (pv 5))) AB))) (UQ (pv 4) (pv 6) set_list))
   (AH (AY (i:=5) nd rfl (Or.inl rfl) (pv 7))))))
   (AH (AN (AO (r:=B' K) As (pv 4) AD (fun _ _=>rfl)))))))),?_⟩
  have je:=a.nd R
  have zs:=a.Gf
  refine⟨_,rfl,_,rfl,G,v,a.pt,a.size,rfl,sG,hv,je,by lia,fun p L l gL H1 s1 np hp vl bf l9=>?_⟩
  obtain⟨Y,c,B,rfl⟩:=Ak.WD R bf
  rw[List.length_map]at B bf l9
  have le:=vl.length
  rw[List.length_map]at le
  have mY:=B.len
  have l0:1<=Y.length:=by rw[B.eq];simp
  refine⟨Bf,fun p0 XY=>?_⟩
  have t0:=AG.new (o:=.lst [.BO]) XY
  have f0:upd H1 p0 (.lst [.BO]) p0=some (.lst [.BO]):=AE
  generalize upd H1 p0 (.lst [.BO])=H2 at t0 f0⊢
  refine⟨_,rfl,p,_,rfl,.inl (Ap.of (t0 _ _ hp)),p0,_,_,rfl,rfl,f0,by lia,by lia,Ab (by simp;lia),fun I J=>?_⟩
  have e1:(List.replicate ((L.length:Nat):Int).toNat [V.BO]).flatten=List.replicate L.length .BO:=by
   rw[Int.toNat_natCast]
   generalize L.length=n
   induction n with
   |zero=>rfl
   |succ n ih=>rw[List.replicate_succ,List.flatten_cons,ih];rfl
  rw[e1]
  have tT:=AG.new (o:=.lst (List.replicate L.length .BO)) J
  have fT:upd H2 I (.lst (List.replicate L.length .BO)) I=some (.lst (List.replicate L.length .BO)):=AE
  generalize upd H2 I (.lst (List.replicate L.length .BO))=H3 at tT fT⊢
  have s13:=t0.trans tT
  have S3:=s1.trans s13
  have S:=s13 _ _ hp
  have vq:H I=none:=(s1.trans t0).free J
  refine⟨_,rfl,p,_,rfl,.inl (Ap.of S),?_⟩
  refine⟨_,rfl,p,_,rfl,.inl (Ap.of S),_,_,rfl,rfl,_,rfl,_,rfl,Y.length,by rw[le],by lia,?_⟩
  refine Vz (n:=Y.length) (fun i σ M=>∃(D:List V) (o6 o7:Option V),σ=[some v,some (.ref Z),some (.ref fJ),some (.ref p),some (.ref I),some (.int ((1+(c.take i).flatten.length:Nat):Int)),o6,o7]/\Bt (some I) H3 M/\M I=some (.lst D)/\Fd H3 M Y D i) ⟨_,none,none,?_,.refl,fT,⟨by simp[le],fun j x h1 h2=>?_⟩⟩ ?_ ?_
  ·rw[<-mY,List.take_length,le,B.eq,List.length_cons,Nat.add_comm]
   rfl
  ·have:=(ADs h2).1
   lia
  ·rintro i σ M hi ⟨D,o6,o7,rfl,U,hT,F⟩
   obtain⟨x,hx⟩:∃x,Y[i]?=some x:=⟨_,ADr hi⟩
   obtain⟨ks,vr⟩:∃ks,c[i]?=some ks:=⟨_,ADr (by lia)⟩
   obtain⟨b1,b2,b3,b4⟩:=B.at_ vr
   have kd:=B.kids i x ks hx vr
   obtain⟨ox,wx⟩:=B.ok x (ADu hx)
   obtain⟨y,hy,vy⟩:=vl.get' (show(Y.map Ak.pt)[i]?=some x.pt by rw[List.getElem?_map,hx];rfl)
   have aQ:AG H M:=fun b o e=>U.keep b o (fun z=>by rw[<-ADt z,vq]at e;cases e) (S3 _ _ e)
   have zT:I≠p:=fun z=>by rw[z]at J;rw[t0 _ _ hp]at J;cases J
   have jf:M p=some (.lst L):=U.keep p _ (fun z=>zT (ADt z)) S
   have zx:=x.Gf
   refine⟨_,rfl,_,rfl,rfl,_,rfl,_,rfl,p,_,_,_,rfl,rfl,Ap.of jf,Aq hy,G,y,x.pt,x.size,rfl,sG.trans aQ,vy,x.nd ox,by lia,fun pI zU us H4 s4 nI hI Yp zV=>?_⟩
   obtain⟨C,zW,eu⟩:=Ak.aH ox zV
   have ek:=zW.one kd
   subst ek
   have vn:=Yp.length
   rw[eu,List.length_map]at vn
   refine⟨pI,_,rfl,.inl (Ap.of hI),_,_,rfl,rfl,?_⟩
   have zX:(((1+(c.take (i+1)).flatten.length:Nat):Int))-((zU.length:Nat):Int)=((1+(c.take i).flatten.length:Nat):Int):=by lia
   rw[zX]
   have zY:=s4 _ _ hT
   have jg:=s4 _ _ jf
   refine⟨_,rfl,rfl,_,rfl,_,rfl,p,_,_,_,rfl,rfl,Ap.of jg,Aq hy,?_⟩
   refine⟨_,rfl,_,rfl,_,rfl,_,rfl,_,rfl,I,D,rfl,Ap.of zY,fun pS vv=>?_⟩
   rw[WE D _ _ (by lia) (by rw[F.len];lia),show 1+(c.take (i+1)).flatten.length-(1+(c.take i).flatten.length)=C.length by lia]
   obtain⟨cs,g1,g2⟩:=F.slice C.length (1+(c.take i).flatten.length) (by lia) b4
   rw[b2]at g1
   have t5:=AG.new (o:=.lst ((D.drop (1+(c.take i).flatten.length)).take C.length)) vv
   have f5:upd H4 pS (.lst ((D.drop (1+(c.take i).flatten.length)).take C.length)) pS=some (.lst ((D.drop (1+(c.take i).flatten.length)).take C.length)):=AE
   generalize upd H4 pS (.lst ((D.drop (1+(c.take i).flatten.length)).take C.length))=H5 at t5 f5⊢
   have s5:=s4.trans t5
   have mZ:∀b,H5 b=none->H3 b=none:=fun b h=>U.FQ b (s5.free h)
   refine⟨G,H3,y,x,pS,_,C,cs,rfl,sG.trans (aQ.trans s5),vy,ox,by lia,f5,U.FQ _ (s4.free vv),mZ,kd,g1,g2.up (BX (fun b h=>h) fun b o _ h=>s5 _ _ h),fun w b H6 s6 vw gd=>?_⟩
   have X:=s5.trans s6
   have zb:=X _ _ hT
   have tl:i<D.length:=by rw[F.len];exact hi
   refine⟨_,rfl,_,rfl,I,D,_,i,rfl,rfl,zb,by unfold So;rw[if_pos (by lia),if_pos (by lia),Int.toNat_natCast],?_⟩
   refine⟨_,rfl,?_⟩
   have vz:H3 I≠none:=by rw[fT];simp
   refine⟨D.set i w,_,_,rfl,(U.trans (.of X)).put,AE,F.set (fun b o h1 h2=>?_) hx gd (vw.up (BX (fun b h=>h) fun b o h1 h2=>?_))⟩
   ·rw[AK (fun z=>vz (by rw[<-z];exact h1))]
    exact X _ _ h2
   ·rw[AK (fun z=>vz (by rw[<-z];exact h1))]
    exact h2
  ·rintro σ M ⟨D,o6,o7,rfl,U,hT,F⟩
   obtain⟨w,b,g1,g2,g3⟩:=F.val 0 a (Nat.zero_le _) (by rw[B.eq];rfl)
   refine⟨_,rfl,I,D,0,w,rfl,rfl,Ap.of hT,Aq g1,q w b M (fun b o e=>U.keep b o (fun z=>by rw[<-ADt z,vq]at e;cases e) (S3 _ _ e)) (g3.up (BX (fun b h=>S3.free h) fun b o _ h=>h)) g2⟩
end
end By
namespace By
open PySem L2
section
variable{P:Program} {w:World} {K:ADv} [Ar K] {mg:Str->Option Value} {base:Heap}
theorem Lv:Ah ["doc"] ["doc"] (AI DQ):=⟨rfl,rfl,rfl,by decide+kernel,rfl,by decide+kernel,by decide+kernel⟩
theorem KX {f:Addr} {m:FuncData} (F:Ct K "steps_of" "steps_of" DQ f m) (T:Txt mg):BG P w K mg base CW 1 f m ["doc"] E':=by
 refine F.ok Lv (fun j H Q E h=>?_) (fun u A outer s H j Q E d h=>?_)
 ·obtain⟨v,t,rfl,n,hold,q⟩:=h
  rfl
 ·obtain⟨v,t,rfl,n,hold,q⟩:=h
  have nd:=Lv.nd
  have B:=BU d
  refine⟨_,(AF (Ai (BA (AM Du rfl T.isinstance AW (AA (pv 0) (AA (Az (v:=.ty "list") rfl T.list Bv rfl) AB)))) (AH (AN (Bd (Fp rfl) rfl T.list Bv (AA (OA rfl T.range (AA (AM Ad rfl T.len PySem.boot_len (AA (pv 0) AB)) AB)) AB)))) AQ)
   (AF (Ai (BA (AM Du rfl T.isinstance AW (AA (pv 0) (AA (Az (v:=.ty "dict") rfl T.dict Co rfl) AB)))) (AH (AN (AM (ER rfl) rfl T.sorted Ey (AA (pv 0) AB)))) AQ)
   (AH (AN (A_ AB))))),?_⟩
  cases n with
  |int i=>
   refine⟨_,rfl,_,"list","int",rfl,rfl,.int i,_,rfl,BJ ⟨_,rfl,_,"dict","int",rfl,rfl,.int i,_,rfl,BJ ?_⟩⟩
   exact⟨Nat.zero_le _,fun p c=>q p [] _ (AG.new c) c AE rfl⟩
  |str x=>
   refine⟨_,rfl,_,"list","str",rfl,rfl,.str x,_,rfl,BJ ⟨_,rfl,_,"dict","str",rfl,rfl,.str x,_,rfl,BJ ?_⟩⟩
   exact⟨Nat.zero_le _,fun p c=>q p [] _ (AG.new c) c AE rfl⟩
  |bl b=>exact hold.elim
  |tup _ _=>exact hold.elim
  |@lst a j k h r=>
   have C:k.length<=900:=hold
   have e:=r.length
   refine⟨_,rfl,_,"list","list",rfl,rfl,.lst h,_,rfl,Bs ?_⟩
   refine⟨_,rfl,a,_,rfl,.inl (.inl h),_,rfl,fun r d=>?_⟩
   refine⟨r,j.length,rfl,AE,by omega,fun p c=>?_⟩
   exact q p _ _ ((AG.new d).trans (AG.new c)) ((AG.new d).free c) AE (by show _=_;rw[e])
  |@BF a kvs g k h o r=>
   have D:kvs.length=g.length:=by have:=congrArg List.length o;simpa using this
   have G:g.length=k.length/\g.length<64:=hold
   refine⟨_,rfl,_,"list","dict",rfl,rfl,.dK h,_,rfl,BJ ?_⟩
   refine⟨_,rfl,_,"dict","dict",rfl,rfl,.dK h,_,rfl,Bs ?_⟩
   exact⟨_,rfl,a,_,g,rfl,h,o,by omega,fun p l y z s c perm Kv=>q p _ y s z c ⟨l,rfl,perm,Kv⟩⟩
theorem NB {f:Addr} {a:FuncData} (F:Ct K "steps_of" "steps_of" DQ f a) (T:Txt mg):BG P w K mg base CW 1 f a ["doc"] Ii:=(KX F T).imp fun _ _ _ _ h=>Ob h
end
end By
namespace By
open PySem L2
section
variable{P:Program} {w:World} {K:ADv} [Ar K] {mg:Str->Option Value} {base:Heap}
theorem Lw:Ah ["doc"] ["doc"] (AI EE):=⟨rfl,rfl,rfl,by decide+kernel,rfl,by decide+kernel,by decide+kernel⟩
theorem Qy {f:Addr} {fd:FuncData} (F:Ct K "inner_of" "inner_of" EE f fd) (T:Txt mg) (d:Df P w K mg base "steps_of" ["doc"] 1 E'):BG P w K mg base CW 2 f fd ["doc"] GY:=by
 obtain⟨J,L,m,u,z,B⟩:=d.ex
 refine F.ok Lw (fun vs H Q E h=>?_) (fun IV A outer s H vs Q E hr h=>?_)
 ·obtain⟨G,v,t,rfl,X,O,hold,q⟩:=h
  rfl
 ·obtain⟨G,v,t,rfl,X,O,hold,q⟩:=h
  have nd:=Lw.nd
  have hu:=BU hr
  have c:Al 1 _:=hr.mono (by first|decide|omega)
  refine⟨_,(AH (AN (Bb (fv:=["doc"]) (fs:=[0]) rfl (.of (by rfl)) (Bk (AL B c rfl z m u .nil AX (AA (pv 0) AB))) (fun _ _ _ _=>Bi) (fun C s0 H0 fp=>(DH (AO (r:=B' K) As (pv 1) (pv 0) (fun _ _=>rfl)) (Bx hu (pv 1) (pv 0) (fun _ _=>rfl))))))),?_⟩
  refine⟨_,rfl,v,t,rfl,O.up X,hold,fun p l H1 Y np S st=>?_⟩
  obtain⟨U,us,vl,kd,le,ae⟩:=O.kids hold st
  have hl':l.length<=900:=by
   cases O with
   |int i=>rw[show l=[]from st];decide
   |str i=>rw[show l=[]from st];decide
   |bl b=>exact hold.elim
   |tup _ _=>exact hold.elim
   |@lst a vs ts h r=>rw[show l=_ from st,List.length_map,List.length_range];exact hold
   |@BF a kvs ks ts h hk r=>
    obtain⟨ss,rfl,pm,so⟩:=st
    rw[List.length_map,pm.length_eq]
    have:=hold.2
    omega
  have gi:∀{i:Nat} {x:V},l[i]?=some x->l.getD i .BO=x:=fun h=>by rw[List.getD_eq_getElem?_getD,h];rfl
  refine⟨p,rfl,⟨_,Ap.of S⟩,?_⟩
  refine Cv (n:=l.length) (fun i=>l.getD i .BO) (fun i=>U.getD i .BO) (fun _=>true) (Ab (by omega)) (fun i D M N I=>⟨_,_,(AG.new I).seq (Ap.of S),ADr N⟩) (fun i D M v H' N I y=>?_)
   (fun D M I=>⟨_,(AG.new I).seq (Ap.of S),Nat.le_refl _⟩) (fun i D M R N I r=>by exact r) (fun i D M R N I _ r=>?_) (fun D I=>?_)
  ·obtain⟨e,y⟩:=y
   exact⟨(gi (y _ ((AG.new I).seq (Ap.of S)))).symm,e⟩
  ·obtain⟨x,hx⟩:∃x,U[i]?=some x:=⟨_,ADr (by rw[le];exact N)⟩
   have ex:U.getD i .BO=x:=by rw[List.getD_eq_getElem?_getD,hx];rfl
   rw[ex]at r
   have sD:=(X.trans Y).trans (AG.new (o:=.lst M) I)
   obtain⟨st,Z,g⟩:=ae i x hx
   rw[gi Z]
   rcases g with⟨a,xs,j,rfl,h,rfl,e2⟩|⟨a,kvs,k,rfl,h,rfl,e2⟩
   ·exact .inl ⟨_,rfl,_,rfl,a,_,_,_,rfl,rfl,.inl (h.up (sD _)),Aq e2,r⟩
   ·refine .inr ⟨_,rfl,_,rfl,a,x,rfl,?_,r⟩
    rw[<-e2]
    exact .inl ⟨_,Sum.inr k,h.up (sD _),rfl,rfl⟩
  ·refine q D U us _ (Y.trans (AG.new I)) (Y.free I) ?_ vl kd
   rw[AE]
   congr 2
   rw[List.filter_eq_self.mpr fun _ _=>rfl]
   refine List.ext_getElem (by simp[le]) fun i h1 h2=>?_
   simp only[List.getElem_map,List.getElem_range]
   rw[List.getD_eq_getElem?_getD,ADr h2]
   rfl
end
end By
namespace By
open PySem L2
section
variable{P:Program} {w:World} {K:ADv} [Ar K] {mg:Str->Option Value} {base:Heap}
theorem IG:Ah ["doc"] ["doc"] (AI Cb):=⟨rfl,rfl,rfl,by decide+kernel,rfl,by decide+kernel,by decide+kernel⟩
theorem NC {f:Addr} {c:FuncData} (F:Ct K "outer_copy" "outer_copy" Cb f c) (T:Txt mg):BG P w K mg base CW 1 f c ["doc"] Ma:=by
 refine F.ok IG (fun e H Q E h=>?_) (fun g A outer s H e Q E i h=>?_)
 ·obtain⟨d,rfl,b,q⟩:=h
  rfl
 ·obtain⟨d,rfl,b,q⟩:=h
  have nd:=IG.nd
  have k:=BU i
  refine⟨_,(AF (Ai (BA (AM Du rfl T.isinstance AW (AA (pv 0) (AA (Az (v:=.ty "list") rfl T.list Bv rfl) AB)))) (AH (AN (Bd EL rfl T.list Bv (AA (pv 0) AB)))) AQ)
   (AF (Ai (BA (AM Du rfl T.isinstance AW (AA (pv 0) (AA (Az (v:=.ty "dict") rfl T.dict Co rfl) AB)))) (AH (AN (Bd JU rfl T.dict Co (AA (pv 0) AB)))) AQ)
   (AH (AN (pv 0))))),?_⟩
  cases d with
  |leaf v=>
   refine⟨_,rfl,_,"list",Dc.XX (.leaf v),rfl,rfl,Dc.Zz b,_,rfl,Aj (by cases v<;>rfl) ?_⟩
   refine⟨_,rfl,_,"dict",Dc.XX (.leaf v),rfl,rfl,Dc.Zz b,_,rfl,Aj (by cases v<;>rfl) ?_⟩
   exact⟨_,rfl,q⟩
  |row a j=>
   refine⟨_,rfl,_,"list",_,rfl,rfl,Dc.Zz b,_,rfl,BK rfl ?_⟩
   simp only[Dc.At]at b
   exact⟨_,rfl,a,_,rfl,.inl (.inl b.1),q⟩
  |tab a l j=>
   refine⟨_,rfl,_,"list",_,rfl,rfl,Dc.Zz b,_,rfl,Aj rfl ?_⟩
   refine⟨_,rfl,_,"dict",_,rfl,rfl,Dc.Zz b,_,rfl,BK rfl ?_⟩
   simp only[Dc.At]at b
   exact⟨_,rfl,a,_,rfl,b.1,q⟩
end
end By
namespace By
open PySem L2
section
variable{P:Program} {w:World} {K:ADv} [Ar K] {mg:Str->Option Value} {base:Heap}
theorem PL:Ah ["doc","told","waiting","part","steps","step"] ["doc"] (AI Fc):=⟨rfl,rfl,rfl,by decide+kernel,rfl,by decide+kernel,by decide+kernel⟩
theorem Tw {f:Addr} {fd:FuncData} (F:Ct K "copy_of" "copy_of" Fc f fd) (T:Txt mg) (Wk:Df P w K mg base "steps_of" ["doc"] 1 Ii) (Qz:Df P w K mg base "outer_copy" ["doc"] 1 Ma):BG P w K mg base CW 2 f fd ["doc"] GU:=by
 obtain⟨gQ,gR,Wl,Wm,Wq,Wr⟩:=Wk.ex
 obtain⟨cS,cT,G,I,J,M⟩:=Qz.ex
 refine F.ok PL (fun Z H Q E h=>?_) (fun IV A outer s H Z Q E hr h=>?_)
 ·obtain⟨d,rfl,gS,v_,hsz,q⟩:=h
  rfl
 ·obtain⟨d,rfl,gS,v_,hsz,q⟩:=h
  have nd:=PL.nd
  have hu:=BU hr
  have Tx:Al 1 _:=hr.mono (by first|decide|omega)
  have n:Al 1 _:=hr.mono (by first|decide|omega)
  refine⟨_,(AF (AY (i:=1) nd rfl (Or.inl rfl) (AL M n rfl J G I .nil AX (AA (pv 0) AB)))
   (AF (AY (i:=2) nd rfl (Or.inl rfl) (A_ (AA (pv 1) AB)))
   (AF (NS PassesOwn.never (Ua (pv 2) (fun _=>rfl)) (AF (AY (i:=3) nd rfl (Or.inl rfl) (Uk PySem.F.plainAttrs_list PySem.F.slot_list_pop PySem.F.type_list_pop bH (pv 2)))
   (AF (AY (i:=4) nd rfl (Or.inl rfl) (AL Wr Tx rfl Wq Wl Wm .nil AX (AA (pv 3) AB)))
   (AH (CD PassesOwn.never rfl (Bk (pv 4)) (Bh (i:=5) nd rfl (Or.inl rfl)) (AF (VT (UR (AL M n rfl J G I .nil AX (AA (DH (AO (r:=B' K) As (pv 3) (pv 5) (fun _ _=>rfl)) (Bx hu (pv 3) (pv 5) (fun _ _=>rfl))) AB)) (UQ (pv 3) (pv 5) set_list)) (Ie hu (pv 3) (pv 5) (AL M n rfl J G I .nil AX (AA (DH (AO (r:=B' K) As (pv 3) (pv 5) (fun _ _=>rfl)) (Bx hu (pv 3) (pv 5) (fun _ _=>rfl))) AB)) rfl))
   (AH (Cs (JD PySem.F.plainAttrs_list PySem.F.slot_list_append PySem.F.type_list_append FK (pv 2) (AA (DH (AO (r:=B' K) As (pv 3) (pv 5) (fun _ _=>rfl)) (Bx hu (pv 3) (pv 5) (fun _ _=>rfl))) AB))))))))))
   (AH (AN (pv 1)))))),?_⟩
  refine⟨_,rfl,d,rfl,gS,HX.of (AG.refl H) gS fun tv X si oi fi=>?_⟩
  refine⟨_,rfl,Bf,fun L hL=>?_⟩
  have sL:=AG.new (o:=.lst [tv]) hL
  have nL:H L=none:=si.free hL
  have wA:tv≠.ref L:=fun z=>(TQ gS oi z) hL
  have C0:D_ H (upd X L (.lst [tv])) L tv d [(tv,d)]:=D_.start (si.trans sL) nL AE (oi.up fun a e u h=>sL _ _ h) gS v_ wA
  dsimp only[Eo,Pp]
  refine Rb (fun m σ Hw=>aP (fun(ps:List (V×Dc)) (o3 o4 B:Option V)=>σ=[some d.val,some tv,some (.ref L),o3,o4,B]) (fun(ps:List (V×Dc)) (o3 o4 B:Option V)=>D_ H Hw L tv d ps) (fun(ps:List (V×Dc)) (o3 o4 B:Option V)=>Dc.AJ (ps.map (·.2))<=d.size) (fun(ps:List (V×Dc)) (o3 o4 B:Option V)=>m=Dc.AJ (ps.map (·.2))))
   (Dc.AJ [d]) ⟨[(tv,d)],none,none,none,rfl,C0,by simp[Dc.AJ],rfl⟩ ?_ (fun σ H Q Q' h ⟨v,e,k,t,q⟩=>⟨v,e,k,t,h _ _ q⟩)
  rintro m σ Hw ⟨ps,o3,o4,B,rfl,C,hm,rfl⟩
  refine⟨_,rfl,_,.inl ⟨_,Ap.of C.eL,rfl⟩,?_⟩
  by_cases YB:ps=[]
  ·subst YB
   refine BJ ⟨_,rfl,?_⟩
   obtain⟨e,ev,el,ef⟩:=C.done
   rw[<-ev]
   exact q e Hw ef el
  obtain⟨R,p,rfl⟩:∃R p,ps=R++[p]:=⟨ps.dropLast,ps.getLast YB,(List.dropLast_concat_getLast YB).symm⟩
  obtain⟨v,node⟩:=p
  refine BK (by simp) ?_
  have ma:Dc.AJ ((R++[(v,node)]).map (·.2))=Dc.AJ (R.map (·.2))+node.size:=by rw[List.map_append,Dc.Am];simp[Dc.AJ]
  have wB:=C.eL
  refine⟨_,rfl,.inl ⟨rfl,_,Ap.of wB⟩,L,_,v,rfl,rfl,wB,by simp,?_⟩
  have dl:(List.map (·.1) (R++[(v,node)])).dropLast=R.map (·.1):=by rw[List.map_append];simp
  rw[dl]
  obtain⟨nat,eB⟩:=C.src (v,node) (by simp)
  have on:=C.out (v,node) (by simp)
  have s1:AG H (upd Hw L (.lst (R.map (·.1)))):=C.same.put nL
  have lq:R.length<=Dc.AJ (R.map (·.2)):=by have:=Dc.CV (R.map (·.2));rw[List.length_map]at this;exact this
  cases node with
  |leaf v'=>
   obtain⟨rfl,lv⟩:=(show v=v'/\Dc.Lf v' from on)
   refine⟨_,rfl,.leaf v,rfl,lv,trivial,by simp[Dc.size],fun p l H2 s2 np hp st=>?_⟩
   cases(show l=[]from st)
   refine⟨_,rfl,p,rfl,⟨_,Ap.of hp⟩,Ci (xs:=[]) (fun i σ X=>aN (fun B=>σ=[some d.val,some tv,some (.ref L),some v,some (.ref p),B]) (fun B=>X=H2)) ⟨_,rfl,rfl⟩ (fun i σ X _ ⟨_,_,e⟩=>by rw[e];exact Ap.of hp) (fun i x σ X hx=>by simp at hx) ?_⟩
   rintro σ X ⟨B,rfl,rfl⟩
   refine⟨Dc.AJ (R.map (·.2)),by rw[ma];simp only[Dc.size];lia,R,_,_,_,rfl,C.leaf (fun b o hb h=>s2 _ _ (by rw[AK hb];exact h)) (s2 _ _ AE),by lia,rfl⟩
  |row b xs=>
   obtain⟨a,rfl,ea,na⟩:=(show∃a,v=.ref a/\Hw a=some (.lst (xs.map Dc.val))/\H a=none from on)
   have aL:a≠L:=fun z=>C.TN (by rw[<-z];exact BW.mpr ⟨(.ref a,.row b xs),by simp,rfl⟩)
   have cU:upd Hw L (.lst (R.map (·.1))) a=some (.lst (xs.map Dc.val)):=by rw[AK aL];exact ea
   have Q_:=nat
   simp only[Dc.At]at Q_
   simp only[Dc.slim]at eB
   simp only[Dc.size]at ma
   have lx:=Dc.CV xs
   refine⟨_,rfl,.row a xs,rfl,?_,by simp only[Dc.slim];exact eB,by simp only[Dc.size];lia,fun p l H2 s2 np hp st=>?_⟩
   ·simp only[Dc.At]
    exact⟨.inl cU,Dc.Dw xs (fun c _ o e=>s1 c o e) Q_.2⟩
   cases(show l=(List.range xs.length).map fun(i:Nat)=>V.int (i:Int)from st)
   have md:=s1.trans s2
   have gT:=s2 _ _ cU
   have cV:H2 L=some (.lst (R.map (·.1))):=s2 _ _ AE
   have ll:((List.range xs.length).map fun(i:Nat)=>V.int (i:Int)).length=xs.length:=by simp
   have pa:p≠a:=Ne.symm (Ac cU np)
   have pL:p≠L:=Ne.symm (Ac (AE (H:=Hw) (a:=L) (o:=.lst (R.map (·.1)))) np)
   refine⟨_,rfl,p,rfl,⟨_,Ap.of hp⟩,Ci (xs:=(List.range xs.length).map fun(i:Nat)=>V.int (i:Int)) (fun i σ X=>aO (fun(g:List V) (B:Option V)=>σ=[some d.val,some tv,some (.ref L),some (.ref a),some (.ref p),B]) (fun(g:List V) (B:Option V)=>g.length=i) (fun(g:List V) (B:Option V)=>i<=xs.length) (fun(g:List V) (B:Option V)=>X a=some (.lst (g++(xs.drop i).map Dc.val))) (fun(g:List V) (B:Option V)=>X L=some (.lst (R.map (·.1)++g))) (fun(g:List V) (B:Option V)=>(∀(j:Nat) c x,g[j]?=some c->xs[j]?=some x->E_ H X c x)) (fun(g:List V) (B:Option V)=>(∀b o,b≠a->b≠L->H2 b=some o->X b=some o)) (fun(g:List V) (B:Option V)=>(roots (g.zip xs)).Nodup) (fun(g:List V) (B:Option V)=>∀c∈roots (g.zip xs),H2 c=none))
    ⟨[],_,rfl,rfl,Nat.zero_le _,by rw[gT];rfl,by rw[cV,List.append_nil],fun j c x h=>by simp at h,fun b o _ _ h=>h,by simp[roots],by simp[roots]⟩ (fun i σ X _ ⟨g,B,_,_,_,_,_,_,kp,_,_⟩=>Ap.of (kp p _ pa pL hp)) ?_ ?_⟩
   ·rintro i sv σ X cW ⟨g,B,rfl,lc,me,N,Yq,oc,kp,rn,rf⟩
    have hi:i<xs.length:=by have:=(ADs cW).1;rw[ll]at this;exact this
    have mf:sv=.int (i:Int):=by rw[List.getElem?_map,List.getElem?_range hi]at cW;exact(ADt cW).symm
    subst mf
    obtain⟨x,hx⟩:∃x,xs[i]?=some x:=⟨_,ADr hi⟩
    have mh:=ADu hx
    have aQ:AG H X:=fun b o e=>kp b o (Ac e na) (Ac e nL) (md b o e)
    have dr:xs.drop i=x::xs.drop (i+1):=by rw[List.drop_eq_getElem_cons hi];rw[ADr hi]at hx;rw[ADt hx]
    have gU:x.At X:=Dc.RW aQ (Dc.FN Q_.2 x mh)
    have Ca:Na (g++(xs.drop i).map Dc.val) (i:Int)=some x.val:=Aq (by rw[dr,List.getElem?_append_right (by lia),lc,Nat.sub_self];rfl)
    refine .inl (.inl ⟨_,rfl,_,rfl,a,_,_,_,rfl,rfl,Ap.of N,Ca,x,rfl,gU,HX.of aQ gU fun c Hc sc mi fc=>?_⟩)
    have mj:=sc _ _ N
    have hlen:(g++(xs.drop i).map Dc.val).length=xs.length:=by rw[List.length_append,List.length_map,List.length_drop];lia
    refine⟨_,rfl,_,rfl,a,_,_,i,rfl,rfl,mj,by unfold So;rw[if_pos (by lia),if_pos (by rw[hlen];lia),Int.toNat_natCast],?_⟩
    have mm:(g++(xs.drop i).map Dc.val).set i c=(g++[c])++(xs.drop (i+1)).map Dc.val:=by
     rw[dr,List.map_cons,List.set_append_right _ _ (by lia),lc,Nat.sub_self,List.set_cons_zero,List.append_assoc]
     rfl
    rw[mm]
    have cL:∀S,c=.ref S->S≠a/\S≠L:=fun S e=>⟨(fun z=>by have:=fc S e;rw[z,N]at this;cases this),(fun z=>by have:=fc S e;rw[z,Yq]at this;cases this)⟩
    have gW:upd Hc a (.lst ((g++[c])++(xs.drop (i+1)).map Dc.val)) L=some (.lst (R.map (·.1)++g)):=by rw[AK (Ne.symm aL)];exact sc _ _ Yq
    refine⟨_,rfl,.inl ⟨rfl,_,Ap.of gW⟩,.inl ⟨_,rfl,_,rfl,a,_,_,c,rfl,rfl,Ap.of AE,Aq (by rw[List.getElem?_append_left (by rw[List.length_append,lc];simp),List.getElem?_append_right (by lia),lc,Nat.sub_self];rfl),?_⟩⟩
    refine⟨L,_,_,rfl,rfl,gW,BV (by simp only[List.length_append,List.length_map];lia),g++[c],_,rfl,by simp[lc],hi,by rw[AK aL];exact AE,by rw[AE,List.append_assoc],fun j U x' D O=>?_,fun b' o D O h3=>?_,?_,fun U Y=>?_⟩
    ·have base:∀{U:V} {x':Dc},E_ H Hc U x'->(∀S,U=.ref S->S≠a/\S≠L)->E_ H (upd (upd Hc a (.lst ((g++[c])++(xs.drop (i+1)).map Dc.val))) L (.lst ((R.map (·.1)++g)++[c]))) U x':=fun o cX=>o.up fun S e u h=>by
      obtain⟨g1,g2⟩:=cX S e
      rw[AK g2,AK g1]
      exact h
     by_cases mn:j<g.length
     ·rw[List.getElem?_append_left mn]at D
      refine base ((oc j U x' D O).up fun S e u h=>sc _ _ h) fun S e=>?_
      have hz:(g.zip xs)[j]?=some (U,x'):=by rw[List.getElem?_zip_eq_some];exact⟨D,O⟩
      have hr:=rf S (BW.mpr ⟨(U,x'),ADu hz,e⟩)
      exact⟨(fun z=>by rw[z,gT]at hr;cases hr),(fun z=>by rw[z,cV]at hr;cases hr)⟩
     ·have hl:=(ADs D).1
      rw[List.length_append,List.length_singleton]at hl
      have ej:j=i:=by lia
      subst ej
      rw[List.getElem?_append_right (by lia),lc,Nat.sub_self]at D
      have e1:c=U:=by simpa using D
      subst e1
      rw[hx]at O
      cases O
      exact base mi cL
    ·rw[AK O,AK D]
     exact sc _ _ (kp b' o D O h3)
    ·have ez:(g++[c]).zip xs=g.zip xs++[(c,x)]:=GV lc hx
     rw[ez,BM]
     refine List.nodup_append.mpr ⟨rn,by cases c<;>first|exact List.nodup_nil|exact List.nodup_cons.mpr ⟨(fun h=>nomatch h),List.nodup_nil⟩,fun y hy z hz e=>?_⟩
     subst e
     obtain⟨p',cY,e'⟩:=BW.mp hz
     rw[List.mem_singleton.mp cY]at e'
     obtain⟨⟨c2,x2⟩,Ke,e2⟩:=BW.mp hy
     obtain⟨j,hj,ej⟩:=List.mem_iff_getElem.mp Ke
     have bY:(g.zip xs)[j]?=some (c2,x2):=by rw[ADr hj,ej]
     obtain⟨g1,g2⟩:=List.getElem?_zip_eq_some.mp bY
     exact((oc j c2 x2 g1 g2).root (p:=(c2,x2)) e2).1 (fc y e')
    ·have ez:(g++[c]).zip xs=g.zip xs++[(c,x)]:=GV lc hx
     rw[ez,BM]at Y
     rcases List.mem_append.mp Y with Y|Y
     ·exact rf U Y
     ·obtain⟨p',cY,e'⟩:=BW.mp Y
      rw[List.mem_singleton.mp cY]at e'
      have h0:=fc U e'
      cases q2:H2 U with
      |none=>rfl
      |some o=>
       have:=kp U o (cL U e').1 (cL U e').2 q2
       rw[h0]at this
       cases this
   ·rintro σ X ⟨g,B,rfl,lc,me,N,Yq,oc,kp,rn,rf⟩
    rw[ll]at lc N
    rw[List.drop_length,List.map_nil,List.append_nil]at N
    have mz:(g.zip xs).map (·.1)=g:=List.map_fst_zip (by lia)
    have gX:(g.zip xs).map (·.2)=xs:=List.map_snd_zip (by lia)
    have gY:∀p∈g.zip xs,∃j:Nat,g[j]?=some p.1/\xs[j]?=some p.2:=fun p hp=>by
     obtain⟨j,hj,e⟩:=List.mem_iff_getElem.mp hp
     exact⟨j,List.getElem?_zip_eq_some.mp (by rw[ADr hj,e])⟩
    have gZ:∀b o,b≠L->Hw b=some o->H2 b=some o:=fun b o hb h=>s2 _ _ (by rw[AK hb];exact h)
    have C2:=C.step (H2:=X) (g.zip xs) (fun b' o D O h3=>kp b' o D O (gZ b' o O h3)) (by rw[Yq,List.map_append,mz]) (fun p hp=>let⟨j,g1,g2⟩:=gY p hp;oc j _ _ g1 g2)
     (fun p hp=>let⟨j,g1,g2⟩:=gY p hp;⟨Dc.FN Q_.2 _ (ADu g2),Dc.HV eB _ (ADu g2)⟩) rn
     (fun c hc=>by
      cases q2:Hw c with
      |none=>rfl
      |some o=>
       have h0:=rf c hc
       by_cases gb:c=L
       ·rw[gb,cV]at h0;cases h0
       ·rw[gZ c o gb q2]at h0;cases h0) (by rw[N];simp) (fun ob u z=>by rw[N]at z;cases z)
     (fun ec H' dn at' mq=>⟨.row a ec,rfl,by simp only[Dc.DI];have:=dn.Vf;rw[gX]at this;exact this,by
      simp only[Dc.At]
      refine⟨.inl ?_,at'⟩
      rw[mq,N,dn.vals,mz],by simp only[Dc.addrs];exact .refl _⟩)
    have mr:Dc.AJ ((R++g.zip xs).map (·.2))=Dc.AJ (R.map (·.2))+Dc.AJ xs:=by rw[List.map_append,Dc.Am,gX]
    exact⟨Dc.AJ ((R++g.zip xs).map (·.2)),by lia,R++g.zip xs,_,_,_,rfl,C2,by lia,rfl⟩
  |tab b ks xs=>
   obtain⟨a,rfl,ea,na⟩:=(show∃a,v=.ref a/\Hw a=some (.dK (Dc.kvs ks xs))/\H a=none from on)
   have aL:a≠L:=fun z=>C.TN (by rw[<-z];exact BW.mpr ⟨(.ref a,.tab b ks xs),by simp,rfl⟩)
   have cU:upd Hw L (.lst (R.map (·.1))) a=some (.dK (Dc.kvs ks xs)):=by rw[AK aL];exact ea
   have Q_:=nat
   simp only[Dc.At]at Q_
   simp only[Dc.slim]at eB
   simp only[Dc.size]at ma
   obtain⟨_,jh,knd,cZ⟩:=Q_
   have lx:=Dc.CV xs
   refine⟨_,rfl,.tab a ks xs,rfl,?_,by simp only[Dc.slim];exact eB,by simp only[Dc.size];lia,fun p l H2 s2 np hp st=>?_⟩
   ·simp only[Dc.At]
    exact⟨.inl cU,jh,knd,Dc.Dw xs (fun c _ o e=>s1 c o e) cZ⟩
   obtain⟨ss,rfl,perm,_⟩:=(show∃ss:List Str,l=ss.map V.str/\ss.Perm ks/\PyProof.Rows.sortedS ss=true from st)
   have snd:ss.Nodup:=perm.nodup_iff.mpr knd
   have sl:=perm.length_eq
   obtain⟨ys,yp,yl,wC⟩:=reorder (ks:=ss) (ss:=ks) (ec:=xs) perm.symm knd jh.symm
   have md:=s1.trans s2
   have gT:=s2 _ _ cU
   have cV:H2 L=some (.lst (R.map (·.1))):=s2 _ _ AE
   have ll:(ss.map V.str).length=ss.length:=List.length_map ..
   have pa:p≠a:=Ne.symm (Ac cU np)
   have pL:p≠L:=Ne.symm (Ac (AE (H:=Hw) (a:=L) (o:=.lst (R.map (·.1)))) np)
   have pos:∀(j:Nat) k,ks[j]?=some k->∃t,ss[t]?=some k:=fun j k h=>List.mem_iff_getElem?.mp (perm.mem_iff.mpr (ADu h))
   have pos':∀(t:Nat) k,ss[t]?=some k->∃j,ks[j]?=some k:=fun t k h=>List.mem_iff_getElem?.mp (perm.mem_iff.mp (ADu h))
   refine⟨_,rfl,p,rfl,⟨_,Ap.of hp⟩,Ci (xs:=ss.map V.str) (fun i σ X=>Wi (fun(g Z:List V) (B:Option V)=>σ=[some d.val,some tv,some (.ref L),some (.ref a),some (.ref p),B]) (fun(g Z:List V) (B:Option V)=>g.length=i) (fun(g Z:List V) (B:Option V)=>i<=ss.length) (fun(g Z:List V) (B:Option V)=>ks.length=Z.length) (fun(g Z:List V) (B:Option V)=>X a=some (.dK (Dj ks Z))) (fun(g Z:List V) (B:Option V)=>X L=some (.lst (R.map (·.1)++g))) (fun(g Z:List V) (B:Option V)=>(∀(j t:Nat) k,ks[j]?=some k->ss[t]?=some k->Z[j]?=if t<i then g[t]? else(ys[t]?).map Dc.val)) (fun(g Z:List V) (B:Option V)=>(∀(j:Nat) c x,g[j]?=some c->ys[j]?=some x->E_ H X c x)) (fun(g Z:List V) (B:Option V)=>(∀b o,b≠a->b≠L->H2 b=some o->X b=some o)) (fun(g Z:List V) (B:Option V)=>(roots (g.zip ys)).Nodup) (fun(g Z:List V) (B:Option V)=>∀c∈roots (g.zip ys),H2 c=none))
    ⟨[],xs.map Dc.val,_,rfl,rfl,Nat.zero_le _,by rw[List.length_map];exact jh,gT,by rw[cV,List.append_nil],fun j t k D O=>by rw[if_neg (Nat.not_lt_zero _),wC t j k O D,List.getElem?_map],fun j c x h=>by simp at h,fun b o _ _ h=>h,by simp[roots],by simp[roots]⟩
    (fun i σ X _ ⟨g,Z,B,_,_,_,_,_,_,_,_,kp,_,_⟩=>Ap.of (kp p _ pa pL hp)) ?_ ?_⟩
   ·rintro i sv σ X cW ⟨g,Z,B,rfl,lc,me,lv,N,Yq,gc,oc,kp,rn,rf⟩
    have hi:i<ss.length:=by have:=(ADs cW).1;rw[ll]at this;exact this
    obtain⟨k,hk⟩:∃k,ss[i]?=some k:=⟨_,ADr hi⟩
    have mf:sv=.str k:=by rw[List.getElem?_map,hk]at cW;exact(ADt cW).symm
    subst mf
    obtain⟨j,hj⟩:=pos' i k hk
    obtain⟨x,hx⟩:∃x,ys[i]?=some x:=⟨_,ADr (by rw[yl];exact hi)⟩
    have mh:x∈xs:=yp.mem_iff.mp (ADu hx)
    have aQ:AG H X:=fun b o e=>kp b o (Ac e na) (Ac e nL) (md b o e)
    have gU:x.At X:=Dc.RW aQ (Dc.FN cZ x mh)
    have wD:j<Z.length:=by rw[<-lv];exact(ADs hj).1
    have vj:Z[j]?=some x.val:=by rw[gc j i k hj hk,if_neg (Nat.lt_irrefl _),hx];rfl
    have dg:∀{Hx:Hp} {ws:List V} {y:V},Hx a=some (.dK (Dj ks ws))->ks.length=ws.length->ws[j]?=some y->Nk Hx a (.str k) (some y):=fun D O h3=>.inl ⟨_,Sum.inr k,.inl D,rfl,by rw[JZ O knd hj,h3]⟩
    refine .inr (.inr ⟨_,rfl,_,rfl,a,x.val,rfl,dg N lv vj,x,rfl,gU,HX.of aQ gU fun c Hc sc mi fc=>?_⟩)
    have mj:=sc _ _ N
    refine⟨_,rfl,_,rfl,a,_,rfl,Sr.k (k:=Sum.inr k) mj (BV (by rw[Vg lv];lia)),?_⟩
    rw[Vh lv knd hj c]
    have gg:ks.length=(Z.set j c).length:=by rw[List.length_set];exact lv
    have cL:∀S,c=.ref S->S≠a/\S≠L:=fun S e=>⟨(fun z=>by have:=fc S e;rw[z,N]at this;cases this),(fun z=>by have:=fc S e;rw[z,Yq]at this;cases this)⟩
    have gW:upd Hc a (.dK (Dj ks (Z.set j c))) L=some (.lst (R.map (·.1)++g)):=by rw[AK (Ne.symm aL)];exact sc _ _ Yq
    refine⟨_,rfl,.inl ⟨rfl,_,Ap.of gW⟩,.inr ⟨_,rfl,_,rfl,a,c,rfl,dg AE gg (by rw[List.getElem?_set_self wD]),?_⟩⟩
    refine⟨L,_,_,rfl,rfl,gW,BV (by simp only[List.length_append,List.length_map];lia),g++[c],Z.set j c,_,rfl,by simp[lc],hi,gg,by rw[AK aL];exact AE,by rw[AE,List.append_assoc],fun j' t' k' D O=>?_,fun j' U x' D O=>?_,fun b' o D O h3=>?_,?_,fun U Y=>?_⟩
    ·by_cases cb:j'=j
     ·subst cb
      rw[hj]at D
      cases D
      have et:t'=i:=(List.getElem?_inj (by exact(ADs O).1) snd).mp (by rw[O,hk])
      subst et
      rw[List.getElem?_set_self wD,if_pos (Nat.lt_succ_self _),List.getElem?_append_right (by lia),lc,Nat.sub_self]
      rfl
     ·have zc:k'≠k:=fun z=>cb ((List.getElem?_inj (by exact(ADs D).1) knd).mp (by rw[D,hj,z]))
      have wA:t'≠i:=fun z=>zc (by rw[z,hk]at O;exact(ADt O).symm)
      rw[List.getElem?_set_ne (Ne.symm cb),gc j' t' k' D O]
      by_cases gh:t'<i
      ·rw[if_pos gh,if_pos (by lia),List.getElem?_append_left (by lia)]
      ·rw[if_neg gh,if_neg (by lia)]
    ·have base:∀{U:V} {x':Dc},E_ H Hc U x'->(∀S,U=.ref S->S≠a/\S≠L)->E_ H (upd (upd Hc a (.dK (Dj ks (Z.set j c)))) L (.lst ((R.map (·.1)++g)++[c]))) U x':=fun o cX=>o.up fun S e u h=>by
      obtain⟨g1,g2⟩:=cX S e
      rw[AK g2,AK g1]
      exact h
     by_cases mn:j'<g.length
     ·rw[List.getElem?_append_left mn]at D
      refine base ((oc j' U x' D O).up fun S e u h=>sc _ _ h) fun S e=>?_
      have hz:(g.zip ys)[j']?=some (U,x'):=by rw[List.getElem?_zip_eq_some];exact⟨D,O⟩
      have hr:=rf S (BW.mpr ⟨(U,x'),ADu hz,e⟩)
      exact⟨(fun z=>by rw[z,gT]at hr;cases hr),(fun z=>by rw[z,cV]at hr;cases hr)⟩
     ·have hl:=(ADs D).1
      rw[List.length_append,List.length_singleton]at hl
      have ej:j'=i:=by lia
      subst ej
      rw[List.getElem?_append_right (by lia),lc,Nat.sub_self]at D
      have e1:c=U:=by simpa using D
      subst e1
      rw[hx]at O
      cases O
      exact base mi cL
    ·rw[AK O,AK D]
     exact sc _ _ (kp b' o D O h3)
    ·have ez:(g++[c]).zip ys=g.zip ys++[(c,x)]:=GV lc hx
     rw[ez,BM]
     refine List.nodup_append.mpr ⟨rn,by cases c<;>first|exact List.nodup_nil|exact List.nodup_cons.mpr ⟨(fun h=>nomatch h),List.nodup_nil⟩,fun y hy z hz e=>?_⟩
     subst e
     obtain⟨p',cY,e'⟩:=BW.mp hz
     rw[List.mem_singleton.mp cY]at e'
     obtain⟨⟨c2,x2⟩,Ke,e2⟩:=BW.mp hy
     obtain⟨j2,zd,ze⟩:=List.mem_iff_getElem.mp Ke
     have bY:(g.zip ys)[j2]?=some (c2,x2):=by rw[ADr zd,ze]
     obtain⟨g1,g2⟩:=List.getElem?_zip_eq_some.mp bY
     exact((oc j2 c2 x2 g1 g2).root (p:=(c2,x2)) e2).1 (fc y e')
    ·have ez:(g++[c]).zip ys=g.zip ys++[(c,x)]:=GV lc hx
     rw[ez,BM]at Y
     rcases List.mem_append.mp Y with Y|Y
     ·exact rf U Y
     ·obtain⟨p',cY,e'⟩:=BW.mp Y
      rw[List.mem_singleton.mp cY]at e'
      have h0:=fc U e'
      cases q2:H2 U with
      |none=>rfl
      |some o=>
       have:=kp U o (cL U e').1 (cL U e').2 q2
       rw[h0]at this
       cases this
   ·rintro σ X ⟨g,Z,B,rfl,lc,me,lv,N,Yq,gc,oc,kp,rn,rf⟩
    rw[ll]at lc gc
    have mz:(g.zip ys).map (·.1)=g:=List.map_fst_zip (by lia)
    have gX:(g.zip ys).map (·.2)=ys:=List.map_snd_zip (by lia)
    have gY:∀p∈g.zip ys,∃j:Nat,g[j]?=some p.1/\ys[j]?=some p.2:=fun p hp=>by
     obtain⟨j,hj,e⟩:=List.mem_iff_getElem.mp hp
     exact⟨j,List.getElem?_zip_eq_some.mp (by rw[ADr hj,e])⟩
    have gZ:∀b o,b≠L->Hw b=some o->H2 b=some o:=fun b o hb h=>s2 _ _ (by rw[AK hb];exact h)
    have C2:=C.step (H2:=X) (g.zip ys) (fun b' o D O h3=>kp b' o D O (gZ b' o O h3)) (by rw[Yq,List.map_append,mz]) (fun p hp=>let⟨j,g1,g2⟩:=gY p hp;oc j _ _ g1 g2)
     (fun p hp=>let⟨j,g1,g2⟩:=gY p hp;⟨Dc.FN cZ _ (yp.mem_iff.mp (ADu g2)),Dc.HV eB.2 _ (yp.mem_iff.mp (ADu g2))⟩) rn
     (fun c hc=>by
      cases q2:Hw c with
      |none=>rfl
      |some o=>
       have h0:=rf c hc
       by_cases gb:c=L
       ·rw[gb,cV]at h0;cases h0
       ·rw[gZ c o gb q2]at h0;cases h0) (by rw[N];simp) (fun ob u z=>by rw[N]at z;cases z)
     (fun ec H' dn at' mq=>by
      have dv:=dn.vals
      rw[mz]at dv
      have dk:=dn.Vf
      rw[gX]at dk
      have el:ec.length=ss.length:=by have:=congrArg List.length dv;rw[List.length_map]at this;lia
      obtain⟨es,ep,zf,wF⟩:=reorder perm snd el
      have ev:es.map Dc.val=Z:=by
       refine List.ext_getElem? fun j=>?_
       cases hk:ks[j]? with
       |none=>
        have D:=List.getElem?_eq_none_iff.mp hk
        rw[List.getElem?_eq_none_iff.mpr (by rw[List.length_map];lia),List.getElem?_eq_none_iff.mpr (by lia)]
       |some k=>
        obtain⟨t,ht⟩:=pos j k hk
        have tl:=(ADs ht).1
        rw[List.getElem?_map,wF j t k hk ht,gc j t k hk ht,if_pos tl,<-dv,List.getElem?_map]
      refine⟨.tab a ks es,rfl,?_,?_,?_⟩
      ·simp only[Dc.DI]
       refine⟨trivial,OH (by lia) fun j x e D O=>?_⟩
       obtain⟨k,hk⟩:∃k,ks[j]?=some k:=⟨_,ADr (by rw[jh];exact(ADs D).1)⟩
       obtain⟨t,ht⟩:=pos j k hk
       have e1:=wC t j k ht hk
       rw[D]at e1
       obtain⟨e',g1,g2⟩:=Dc.LN dk t x e1
       rw[wF j t k hk ht,g1]at O
       cases O
       exact g2
      ·simp only[Dc.At]
       exact⟨.inl (by rw[mq,N,OF,ev]),zf.symm,knd,Vi ep at'⟩
      ·simp only[Dc.addrs]
       exact(OG ep).cons _)
    have mr:Dc.AJ ((R++g.zip ys).map (·.2))=Dc.AJ (R.map (·.2))+Dc.AJ xs:=by rw[List.map_append,Dc.Am,gX,Dc.ES yp]
    exact⟨Dc.AJ ((R++g.zip ys).map (·.2)),by lia,R++g.zip ys,_,_,_,rfl,C2,by lia,rfl⟩
end
end By
namespace By
open PySem L2
section
variable{P:Program} {w:World} {K:ADv} [Ar K] {mg:Str->Option Value} {base:Heap}
theorem SG:Ah ["doc","step"] ["doc","step"] (AI Hv):=⟨rfl,rfl,rfl,by decide+kernel,rfl,by decide+kernel,by decide+kernel⟩
theorem Ws {f:Addr} {m:FuncData} (F:Ct K "holds" "holds" Hv f m) (T:Txt mg):BG P w K mg base CW 1 f m ["doc","step"] KG:=by
 refine F.ok SG (fun d H Q E h=>?_) (fun p A outer s H d Q E u h=>?_)
 ·obtain⟨v,t,k,rfl,g,hold,q⟩:=h
  rfl
 ·obtain⟨v,t,k,rfl,g,hold,q⟩:=h
  have nd:=SG.nd
  have y:=BU u
  refine⟨_,(AF (Ai (BA (AM (BB:BD _ _ (CO K)) rfl T.isinstance AW (AA (pv 1) (AA (Az (v:=.ty "str") rfl T.str fx rfl) AB)))) (AH (AN (UM (AM (BB:BD _ _ (CO K)) rfl T.isinstance AW (AA (pv 0) (AA (Az (v:=.ty "dict") rfl T.dict Co rfl) AB))) (Po (ar (Up y (pv 1) (pv 0))))))) AQ)
   (AH (AN (UM (AM (BB:BD _ _ (CO K)) rfl T.isinstance AW (AA (pv 0) (AA (Az (v:=.ty "list") rfl T.list Bv rfl) AB))) (Po (UZ fG Iy AD (pv 1) (AM Ad rfl T.len PySem.boot_len (AA (pv 0) AB)))))))),?_⟩
  cases k with
  |inl i=>
   refine⟨_,rfl,_,"str","int",rfl,rfl,.n (.int _),_,rfl,BJ ?_⟩
   cases g with
   |int j=>exact⟨_,rfl,_,"list",_,rfl,rfl,.n (.int _),_,rfl,Aj rfl q⟩
   |str x=>exact⟨_,rfl,_,"list",_,rfl,rfl,.n (.str _),_,rfl,Aj rfl q⟩
   |bl b=>exact hold.elim
   |tup _ _=>exact hold.elim
   |BF h o r=>exact⟨_,rfl,_,"list",_,rfl,rfl,.n (.dK h),_,rfl,Aj rfl q⟩
   |@lst a d c h r=>
    have B:=r.length
    refine⟨_,rfl,_,"list",_,rfl,rfl,.n (.lst h),_,rfl,BK rfl ?_⟩
    refine⟨_,rfl,_,_,rfl,rfl,_,rfl,?_⟩
    by_cases z:(0:Int)<=i
    ·refine BK (decide_eq_true z) ⟨_,rfl,a,_,rfl,.inl (.inl h),_,_,rfl,rfl,?_⟩
     have e:decide (i<(d.length:Int))=((Pt.lst c).Gu (Sum.inl i)).isSome:=by
      simp only[Pt.Gu]
      rw[if_pos z,B]
      by_cases h:i.toNat<c.length
      ·rw[ADr h];exact decide_eq_true (by lia)
      ·rw[List.getElem?_eq_none_iff.mpr (by lia)];exact decide_eq_false (by lia)
     rw[e]
     exact q
    ·refine Aj (decide_eq_false z) ?_
     simp only[Pt.Gu]at q
     rw[if_neg z]at q
     exact q
  |inr x=>
   refine⟨_,rfl,_,"str","str",rfl,rfl,.n (.str _),_,rfl,Bs ?_⟩
   cases g with
   |int j=>exact⟨_,rfl,_,"dict",_,rfl,rfl,.n (.int _),_,rfl,Aj rfl q⟩
   |str x=>exact⟨_,rfl,_,"dict",_,rfl,rfl,.n (.str _),_,rfl,Aj rfl q⟩
   |bl b=>exact hold.elim
   |tup _ _=>exact hold.elim
   |lst h r=>exact⟨_,rfl,_,"dict",_,rfl,rfl,.n (.lst h),_,rfl,Aj rfl q⟩
   |@BF a kvs l c h o r=>
    refine⟨_,rfl,_,"dict",_,rfl,rfl,.n (.dK h),_,rfl,BK rfl ?_⟩
    refine⟨_,rfl,_,rfl,a,_,rfl,.inl ⟨_,Sum.inr x,h,rfl,rfl⟩,?_⟩
    have e:(CF kvs (Sum.inr x)).isSome=((Pt.BF l c).Gu (Sum.inr x)).isSome:=by
     rcases Val.EV o r x with⟨w,C,k1,k2,_⟩|⟨k1,k2⟩
     ·rw[k1,show(Pt.BF l c).Gu (Sum.inr x)=some C from k2];rfl
     ·rw[k1,show(Pt.BF l c).Gu (Sum.inr x)=none from k2];rfl
    rw[e]
    exact q
end
end By
namespace By
open PySem L2
section
variable{P:Program} {w:World} {K:ADv} [Ar K] {mg:Str->Option Value} {base:Heap}
theorem KY:Ah ["node"] ["node"] (AI Cz):=⟨rfl,rfl,rfl,by decide+kernel,rfl,by decide+kernel,by decide+kernel⟩
theorem PM {f:Addr} {k:FuncData} (F:Ct K "holder_in" "holder_in" Cz f k) (T:Txt mg):BG P w K mg base CW 1 f k ["node"] Mj:=by
 refine F.ok KY (fun z H Q E h=>?_) (fun B A outer s H z Q E C h=>?_)
 ·obtain⟨G,v,t,n,rfl,l,m,a,q⟩:=h
  rfl
 ·obtain⟨G,v,t,n,rfl,l,m,a,q⟩:=h
  have nd:=KY.nd
  have x:=BU C
  refine⟨_,(AF (Ai (AR (LB:DC _ _ (df K false)) (AO (r:=Aw K) AU (pv 0) AD (fun _ _=>rfl)) (BL (AA Ag (AA Ag AB))) rfl) (AH (AN (AO (r:=Aw K) AU (pv 0) AD (fun _ _=>rfl)))) AQ)
   (AH (AN (A_ AB)))),?_⟩
  obtain⟨y,d,rest,rfl,D,I⟩:=m.node a
  have b:=D.up l
  refine⟨_,rfl,y,_,0,.str d,rfl,rfl,b,Cw,Ax,fun p J=>⟨p,_,rfl,.inr (BY.of AE),rfl,rfl,_,rfl,?_⟩⟩
  have g:=AG.new (o:=.tup [.str "row",.str "table"]) J
  have i:=b.up g
  have c:Pe (.str d) [.str "row",.str "table"]=decide (d∈(["row","table"]:List Str)):=GW d ["row","table"]
  rcases I with⟨L,M,e⟩|⟨hw,u,r,rfl,x⟩
  ·refine Aj ?_ ⟨Nat.zero_le _,fun N j=>q _ _ (g.trans (AG.new j)) (.inr ⟨e,N,rfl,AE⟩)⟩
   rw[c]
   simp[L,M]
  ·refine BK ?_ ⟨_,rfl,y,_,1,u,rfl,rfl,i,Ca,q _ _ g (.inl x)⟩
   rw[c]
   rcases hw with rfl|rfl<;>decide
end
end By
namespace By
open PySem L2
section
variable{P:Program} {w:World} {K:ADv} [Ar K] {mg:Str->Option Value} {base:Heap}
theorem Gv:Ah ["node"] ["node"] (AI CP):=⟨rfl,rfl,rfl,by decide+kernel,rfl,by decide+kernel,by decide+kernel⟩
theorem Fs {f:Addr} {Y:FuncData} (F:Ct K "inner_nodes" "inner_nodes" CP f Y) (T:Txt mg) (k:Df P w K mg base "inner_of" ["doc"] 2 GY) (b:Df P w K mg base "holder_in" ["node"] 1 Mj):BG P w K mg base CW 3 f Y ["node"] Jo:=by
 obtain⟨z,B,l,m,o,r⟩:=k.ex
 obtain⟨u,x,c,d,g,i⟩:=b.ex
 refine F.ok Gv (fun vs H Q E h=>?_) (fun IV A outer s H vs Q E L h=>?_)
 ·obtain⟨G,v,t,n,rfl,M,Z,y,C,q⟩:=h
  rfl
 ·obtain⟨G,v,t,n,rfl,M,Z,y,C,q⟩:=h
  have nd:=Gv.nd
  have hu:=BU L
  have j:Al 2 _:=L.mono (by first|decide|omega)
  have a:Al 1 _:=L.mono (by first|decide|omega)
  refine⟨_,(AH (AN (AL r j rfl o l m .nil AX (AA (AL i a rfl g c d .nil AX (AA (pv 0) AB)) AB)))),?_⟩
  refine⟨_,rfl,G,v,t,n,rfl,M,Z,y,fun w H1 D hw=>?_⟩
  have hold:=y.Rp C
  rcases hw with hw|⟨e,p0,rfl,N⟩
  ·exact⟨G,w,t.hold,rfl,M.trans D,hw,hold,fun p O I R S U V X J=>q p O I R (D.trans S) (D.free U) V X J⟩
  ·refine⟨H1,.ref p0,.lst [],rfl,AG.refl _,.lst (.inl N) .nil,Nat.zero_le _,fun p O I R S U V X J=>q p O I R (D.trans S) (D.free U) V ?_ (by rw[e];exact J)⟩
   have:I=[]:=J
   subst this
   cases X
   exact .nil
end
end By
namespace By
open PySem L2
section
variable{P:Program} {w:World} {K:ADv} [Ar K] {mg:Str->Option Value} {base:Heap}
theorem PN:Ah ["holder","told"] ["holder","told"] (AI Fe):=⟨rfl,rfl,rfl,by decide+kernel,rfl,by decide+kernel,by decide+kernel⟩
theorem Tz {f:Addr} {I:FuncData} (F:Ct K "filled" "filled" Fe f I) (T:Txt mg) (c:Df P w K mg base "steps_of" ["doc"] 1 E') (m:mg "zip"=none):BG P w K mg base CW 2 f I ["holder","told"] Gi:=by
 obtain⟨j,k,d,e,g,i⟩:=c.ex
 refine F.ok PN (fun J H Q E h=>?_) (fun R A outer s H J Q E M h=>?_)
 ·cases h<;>(subst_vars;rfl)
 ·have nd:=PN.nd
  have Z:=BU M
  have b:Al 1 _:=M.mono (by first|decide|omega)
  refine⟨_,(AF (Ai (BA (AM Du rfl T.isinstance AW (AA (pv 0) (AA (Az (v:=.ty "list") rfl T.list Bv rfl) AB)))) (AH (AN (Bd EL rfl T.list Bv (AA (pv 1) AB)))) AQ)
   (AH (AN (OZ rfl rfl T.dict rfl m (AL i b rfl g d e .nil AX (AA (pv 0) AB)) (pv 1))))),?_⟩
  rcases h with⟨v,N,L,o,rfl,x,y,S,q⟩|⟨v,U,N,L,o,rfl,x,y,hold,z,B,q⟩
  ·cases x with
   |@lst a J _ h r=>
    refine⟨_,rfl,_,"list","list",rfl,rfl,.lst h,_,rfl,Bs ?_⟩
    exact⟨_,rfl,L,o,rfl,.inl (Ap.of y),fun p t=>q p _ (AG.new t) t AE⟩
  ·cases x with
   |@BF a kvs _ _ h V r=>
    refine⟨_,rfl,_,"list","dict",rfl,rfl,.dK h,_,rfl,BJ ?_⟩
    refine⟨_,rfl,.ref a,.BF U N,rfl,.BF h V r,hold,fun p l H1 C np t st=>?_⟩
    obtain⟨D,rfl,u,X⟩:=st
    have G:=C _ _ y
    have O:D.length=o.length:=by rw[u.length_eq,z]
    refine⟨_,rfl,p,L,D,o,rfl,rfl,Ap.of t,Ap.of G,O,by rw[u.length_eq];have:=hold.2;omega,fun Y n=>?_⟩
    refine q Y D _ (C.trans (AG.new n)) (C.free n) u X ?_
    rw[AE]
    congr 2
    exact Hg O (u.nodup_iff.mpr B)
end
end By
namespace By
open PySem L2
section
variable{P:Program} {w:World} {K:ADv} [Ar K] {mg:Str->Option Value} {base:Heap}
theorem IH:Ah ["holder","inner"] ["holder"] (AI Cc):=⟨rfl,rfl,rfl,by decide+kernel,rfl,by decide+kernel,by decide+kernel⟩
theorem ND {f:Addr} {fd:FuncData} (F:Ct K "inner_just" "inner_just" Cc f fd) (T:Txt mg) (I:Df P w K mg base "inner_of" ["doc"] 2 GY) (Z:Df P w K mg base "filled" ["holder","told"] 2 Gi):BG P w K mg base CW 3 f fd ["holder"] Gk:=by
 obtain⟨gj,gm,J,L,M,N⟩:=I.ex
 obtain⟨Yr,Ys,Yt,Yu,Yv,Yw⟩:=Z.ex
 refine F.ok IH (fun vs H Q E h=>?_) (fun IV A outer s H vs Q E hr h=>?_)
 ·obtain⟨U,v,t,cs,mk,rfl,hv,hh,hd,q⟩:=h
  rfl
 ·obtain⟨U,v,t,cs,mk,rfl,hv,hh,hd,q⟩:=h
  have nd:=IH.nd
  have hu:=BU hr
  have g:Al 2 _:=hr.mono (by first|decide|omega)
  have O:Al 2 _:=hr.mono (by first|decide|omega)
  refine⟨_,(AF (AY (i:=1) nd rfl (Or.inl rfl) (AL N g rfl M J L .nil AX (AA (pv 0) AB)))
   (AF (Ai (BA (AM (Vv rfl) rfl T.any fy (AA (Bb (fv:=[]) (fs:=[]) rfl (.of (by rfl)) (Bk (pv 1)) (fun _ _ _ _=>Bi) (fun C s0 U fp=>(DU RL (AO (r:=Aw K) AU (pv 0) AD (fun _ _=>rfl)) Ag (AZ _)))) AB))) (AH (AN EI)) AQ)
   (AH (AN (BL (AA Ag (AA (AL Yw O rfl Yv Yt Yu .nil AX (AA (pv 0) (AA (Bb (fv:=[]) (fs:=[]) rfl (.of (by rfl)) (Bk (pv 1)) (fun _ _ _ _=>Bi) (fun C s0 U fp=>(AO (r:=Aw K) AU (pv 0) AD (fun _ _=>rfl)))) AB))) AB))))))),?_⟩
  have hH:=hv.up DL
  refine⟨_,rfl,nw U H,v,t,rfl,DL,hv,hh.Rp,fun p X us H1 s1 np hp vl kd=>?_⟩
  have eu:=hh.kids kd
  subst eu
  have lz:=hh.len
  have zg:X.length=cs.length:=by have:=vl.length;rw[List.length_map]at this;exact this
  have ex:∀{i:Nat} {H2:Hp},i<X.length->AG H1 H2->∃(a:Addr) (w:Str) (rest:List V) (c:Ak),X.getD i .BO=.ref a/\cs[i]?=some c/\BY K H2 a (.str w::rest)/\((∃d u,c=.Ao d/\w="just"/\rest=[u]/\Val (nw U H) u d)∨(w≠"just"/\∀d,c≠.Ao d)):=fun{i H2} j S=>by
   obtain⟨x,hx⟩:∃x,X[i]?=some x:=⟨_,ADr j⟩
   obtain⟨tx,gn,vx⟩:=vl.get hx
   rw[List.getElem?_map]at gn
   cases hc:cs[i]? with
   |none=>rw[hc]at gn;cases gn
   |some c=>
    rw[hc]at gn
    cases gn
    obtain⟨a,w,rest,rfl,ht,k⟩:=vx.ak
    have Wu:=(ht.up DL).up (s1.trans S)
    refine⟨a,w,rest,c,by rw[List.getD_eq_getElem?_getD,hx];rfl,rfl,Wu,?_⟩
    rcases k with⟨rfl,rfl,rfl⟩|⟨d,u,rfl,rfl,rfl,hu⟩|⟨xs,m,u,rfl,rfl,rfl,hu⟩|⟨ks,xs,ls,m,u,z,rfl,rfl,rfl,hu,hz⟩
    ·exact .inr ⟨by decide,fun d z=>nomatch z⟩
    ·exact .inl ⟨d,u,rfl,rfl,rfl,hu⟩
    ·exact .inr ⟨by decide,fun d z=>nomatch z⟩
    ·exact .inr ⟨by decide,fun d z=>nomatch z⟩
  have li:∀i,i<X.length->X[i]?=some (X.getD i .BO):=fun i j=>by rw[List.getD_eq_getElem?_getD,ADr j];rfl
  refine⟨_,rfl,p,rfl,⟨_,Ap.of hp⟩,?_⟩
  refine CQ (n:=X.length) (fun i=>X.getD i .BO) (fun i v=>∃c,cs[i]?=some c/\v=.bl c.dy) (Ab (by lia)) (fun i H2 j S=>⟨_,_,S.seq (Ap.of hp),li i j⟩) (fun i H2 v H' j S y=>?_) (fun H2 S=>⟨_,S.seq (Ap.of hp),Nat.le_refl _⟩) (fun i H2 R j S r=>?_) (fun D H2 vs hD S d2 lv ov=>?_)
  ·obtain⟨e,y⟩:=y
   have:=y _ (S.seq (Ap.of hp))
   rw[li i j]at this
   exact⟨(ADt this).symm,e⟩
  ·obtain⟨a,w,rest,c,e0,e2,Wu,k⟩:=ex j S
   rw[e0]
   refine⟨_,rfl,a,_,0,_,rfl,rfl,Wu,Cw,rfl,r _ H2 (AG.refl _) ⟨c,e2,?_⟩⟩
   rcases k with⟨d,u,rfl,rfl,rfl,hu⟩|⟨n1,n2⟩
   ·rfl
   ·have:c.dy=true:=by
     cases c with
     |Ao d=>exact absurd rfl (n2 d)
     |_=>rfl
    rw[this]
    simp[MN,n1]
  ·obtain⟨bs,rfl,zh⟩:=YY (by lia) ov
   refine⟨D,bs,rfl,Ap.of d2,?_⟩
   rw[zh]
   have wG:=s1.trans S
   cases hj:Ak.Cp cs with
   |none=>exact⟨_,rfl,Bs (q .BO H2 wG (.inl ⟨hj,rfl⟩))⟩
   |some ds=>
    have wH:=Ak.Bu hj
    refine⟨_,rfl,BJ ?_⟩
    have Ke:=S _ _ hp
    refine⟨_,rfl,_,rfl,p,rfl,⟨_,Ap.of Ke⟩,?_⟩
    refine CQ (n:=X.length) (fun i=>X.getD i .BO) (fun i v=>∃d,ds[i]?=some d/\Val (nw U H) v d) (Ab (by lia)) (fun i H3 j s3=>⟨_,_,s3.seq (Ap.of Ke),li i j⟩) (fun i H3 v H' j s3 y=>?_) (fun H3 s3=>⟨_,s3.seq (Ap.of Ke),Nat.le_refl _⟩) (fun i H3 R j s3 r=>?_) (fun D3 H3 us mu s3 d3 lu ou=>?_)
    ·obtain⟨e,y⟩:=y
     have:=y _ (s3.seq (Ap.of Ke))
     rw[li i j]at this
     exact⟨(ADt this).symm,e⟩
    ·obtain⟨a,w,rest,c,e0,e2,Wu,k⟩:=ex j (S.trans s3)
     rw[e0]
     rw[wH,List.getElem?_map]at e2
     cases mw:ds[i]? with
     |none=>rw[mw]at e2;cases e2
     |some d'=>
      rw[mw]at e2
      cases e2
      rcases k with⟨d,u,e3,rfl,rfl,hu⟩|⟨n1,n2⟩
      ·cases e3
       exact⟨_,rfl,a,_,1,u,rfl,rfl,Wu,Ca,r u H3 (AG.refl _) ⟨_,mw,hu⟩⟩
      ·exact absurd rfl (n2 d')
    ·have lds:ds.length=X.length:=by rw[zg,wH,List.length_map]
     have wI:Aa (nw U H) us ds:=Aa.of (by lia) fun i v t h1 h2=>by
      obtain⟨d,g1,g2⟩:=ou i v h1
      rw[h2]at g1
      cases g1
      exact g2
     have B:=wG.trans s3
     have fin:∀(p4:Addr) (G:Hp),AG H3 G->H3 p4=none->Val (nw U G) (.ref p4) (mk ds)->∀p5,G p5=none->Q (.ref p5) (upd G p5 (.tup [.str "just",.ref p4])):=fun p4 G Y n4 v4 p5 n5=>by
      refine q _ _ ((B.trans Y).trans (AG.new n5)) (.inr ⟨ds,hj,.tup (BY.of ?_) (.cons (.str _) (.cons (v4.up ?_) .nil))⟩)
      ·rw[Av (hd p5 ((B.trans Y).free n5)),AE]
      ·exact BX (fun b h=>h) fun b o h1 h2=>by rw[AK (fun z=>by rw[z,n5]at h2;cases h2)];exact h2
     have upV:∀{G:Hp} {v:V} {d:Pt},AG H3 G->Val (nw U H) v d->Val (nw U G) v d:=fun Y h=>h.up (BX (fun b h=>h) fun b o _ h2=>(B.trans Y) _ _ h2)
     have wJ:∀{G:Hp} {v:List V} {d:List Pt},AG H3 G->Aa (nw U H) v d->Aa (nw U G) v d:=fun Y h=>h.up (BX (fun b h=>h) fun b o _ h2=>(B.trans Y) _ _ h2)
     have wL:=hH.up B
     cases hh with
     |row _ z=>
      refine .row v _ D3 us rfl wL d3 (by lia) fun p4 G Y n4 h4=>⟨Ax,fun p5 n5=>fin p4 G Y n4 (.lst (.inl ?_) (wJ Y wI)) p5 n5⟩
      rw[Av (hd p4 (B.free n4))]
      exact h4
     |tab ss _ l nd z so=>
      refine .tab v _ _ D3 us rfl wL d3 ⟨by rw[List.length_map];exact l,z⟩ (by lia) nd fun p4 ji G Y n4 pm gp h4=>⟨Ax,fun p5 n5=>?_⟩
      have e:=CN gp so pm
      subst e
      have wM:ji.length=us.length:=by lia
      refine fin p4 G Y n4 (.BF (kvs:=EH ji us) (.inl ?_) (CT wM) (by rw[EB wM];exact wJ Y wI)) p5 n5
      rw[Av (hd p4 (B.free n4))]
      exact h4
end
end By
namespace By
open PySem L2
section
variable{P:Program} {w:World} {K:ADv} [Ar K] {mg:Str->Option Value} {base:Heap}
theorem KZ:Ah ["asks"] ["asks"] (AI C_):=⟨rfl,rfl,rfl,by decide+kernel,rfl,by decide+kernel,by decide+kernel⟩
theorem PQ {n o:Addr} {f:Addr} {p:FuncData} (F:Ct K "good_form" "good_form" C_ f p) (T:Txt mg) (c:Df P w K mg base "folded" ["root","inner","join"] 6 (Mm n o)) (x:mg "inner_nodes"=some (.ref n)) (y:mg "good_part"=some (.ref o)):BG P w K mg base CW 7 f p ["asks"] Im:=by
 obtain⟨j,k,d,e,g,i⟩:=c.ex
 refine F.ok KZ (fun z H Q E h=>?_) (fun B A outer s H z Q E r h=>?_)
 ·obtain⟨G,v,a,rfl,t,u,l,m,q⟩:=h
  rfl
 ·obtain⟨G,v,a,rfl,t,u,l,m,q⟩:=h
  have nd:=KZ.nd
  have C:=BU r
  have b:Al 6 _:=r.mono (by first|decide|omega)
  refine⟨_,(AH (AN (AL i b rfl g d e .nil AX (AA (pv 0) (AA (MC (v:=.ref n) rfl x rfl) (AA (MC (v:=.ref o) rfl y rfl) AB)))))),?_⟩
  exact⟨_,rfl,G,v,a,rfl,t,u,l,m,q⟩
end
end By
namespace By
open PySem L2
section
variable{P:Program} {w:World} {K:ADv} [Ar K] {mg:Str->Option Value} {base:Heap}
theorem Ka:Ah ["asks","told"] ["asks","told"] (AI C'):=⟨rfl,rfl,rfl,by decide+kernel,rfl,by decide+kernel,by decide+kernel⟩
theorem PR {aA:Addr} {f:Addr} {fd:FuncData} (F:Ct K "good_part" "good_part" C' f fd) (T:Txt mg) (M:Df P w K mg base "copy_of" ["doc"] 2 GU) (N:Df P w K mg base "filled" ["holder","told"] 2 Gi) (x:Df P w K mg base "good_row" ["cells","more"] 4 Ht) (c:Df P w K mg base "good_table" ["names","lacking","more"] 4 Hu) (mA:mg "ANY"=some (.ref aA)) (hA:YO K aA ["any"]=true):BG P w K mg base CW 5 f fd ["asks","told"] Jr:=by
 obtain⟨jk,jl,O,R,S,U⟩:=M.ex
 obtain⟨Yr,Ys,V,X,Y,Z⟩:=N.ex
 obtain⟨gq,gr,y,B,C,D⟩:=x.ex
 obtain⟨cc,cf,g,i,l,n⟩:=c.ex
 refine F.ok Ka (fun vs H Q E h=>?_) (fun IV A outer s H vs Q E hr h=>?_)
 ·obtain⟨G,H0,v,a0,L,ws,as,cs,rfl,sG,hv,BS,Wj,hL,nL,hd,jm,jn,jo,q⟩:=h
  rfl
 ·obtain⟨G,H0,v,a0,L,ws,as,cs,rfl,sG,hv,BS,Wj,hL,nL,hd,jm,jn,jo,q⟩:=h
  have nd:=Ka.nd
  have hu:=BU hr
  have I:Al 2 _:=hr.mono (by first|decide|omega)
  have J:Al 2 _:=hr.mono (by first|decide|omega)
  have t:Al 4 _:=hr.mono (by first|decide|omega)
  have a:Al 4 _:=hr.mono (by first|decide|omega)
  refine⟨_,(AF (Ai (AR Bl (AO (r:=Aw K) AU (pv 0) AD (fun _ _=>rfl)) Ag (AZ _)) (AH (AN (MC (v:=.ref aA) rfl mA rfl))) AQ)
   (AF (Ai (AR Bl (AO (r:=Aw K) AU (pv 0) AD (fun _ _=>rfl)) Ag (AZ _)) (AH (AN (BL (AA Ag (AA (AL U I rfl S O R .nil AX (AA (AO (r:=Aw K) AU (pv 0) AD (fun _ _=>rfl)) AB)) AB))))) AQ)
   (AF (Ai (AR Bl (AO (r:=Aw K) AU (pv 0) AD (fun _ _=>rfl)) Ag (AZ _)) (AH (AN (AL D t rfl C y B .nil AX (AA (pv 1) (AA (AO (r:=Aw K) AU (pv 0) AD (fun _ _=>rfl)) AB))))) AQ)
   (AH (AN (AL n a rfl l g i .nil AX (AA (AL Z J rfl Y V X .nil AX (AA (AO (r:=Aw K) AU (pv 0) AD (fun _ _=>rfl)) (AA (pv 1) AB))) (AA (AO (r:=Aw K) AU (pv 0) AD (fun _ _=>rfl)) (AA (AO (r:=Aw K) AU (pv 0) AD (fun _ _=>rfl)) AB))))))))),?_⟩
  obtain⟨t0,w0,rest,rfl,zi,k⟩:=hv.ak
  have ht:=zi.up sG
  have le:=jn.length
  have lw:=jo.length
  rw[List.length_map]at lw
  refine⟨_,rfl,t0,_,0,_,rfl,rfl,ht,Cw,rfl,_,rfl,?_⟩
  rcases k with⟨rfl,rfl,rfl⟩|⟨d,u,rfl,rfl,rfl,hu⟩|⟨xs,m,u,rfl,rfl,rfl,hu⟩|⟨ks,xs,ls,m,u,z,rfl,rfl,rfl,hu,hz⟩
  ·exact BK (by decide+kernel) (q (.ref aA) .any H (AG.refl H) (.tup (BY.yr (ws:=["any"]) hA _) (.cons (.str _) .nil)) .any)
  ·refine Aj (by decide+kernel) ⟨_,rfl,t0,_,0,_,rfl,rfl,ht,Cw,rfl,_,rfl,BK (by decide+kernel) ?_⟩
   simp only[Ak.Br]at BS
   simp only[Ak.wt]at Wj
   refine⟨_,rfl,t0,_,1,_,rfl,rfl,ht,Ca,Oa rfl (hu.up sG) BS Wj fun w H1 s1 vw=>⟨Ax,fun p hp=>?_⟩⟩
   refine q _ (.Ao d) _ (s1.trans (AG.new hp)) (.tup (BY.of (by rw[Av (hd p (s1.free hp)),AE])) (.cons (.str _) (.cons (vw.up (BX hd fun b o _ h=>AG.new hp _ _ h)) .nil))) (.Ao d)
  ·refine Aj (by decide+kernel) ⟨_,rfl,t0,_,0,_,rfl,rfl,ht,Cw,rfl,_,rfl,Aj (by decide+kernel) ?_⟩
   refine⟨_,rfl,t0,_,0,_,rfl,rfl,ht,Cw,rfl,_,rfl,BK (by decide+kernel) ?_⟩
   have ea:as=xs:=jm
   subst ea
   simp only[Ak.wt]at Wj
   have:=Ak.CV as
   have:=Ak.Cn as
   exact⟨_,rfl,_,rfl,t0,_,2,_,rfl,rfl,ht,at2,H0,L,ws,cs,m,rfl,hL,jo,by lia,hd,nL,fun w H1 s1 vw=>q w _ H1 s1 vw (.row jn)⟩
  ·refine Aj (by decide+kernel) ⟨_,rfl,t0,_,0,_,rfl,rfl,ht,Cw,rfl,_,rfl,Aj (by decide+kernel) ?_⟩
   refine⟨_,rfl,t0,_,0,_,rfl,rfl,ht,Cw,rfl,_,rfl,Aj (by decide+kernel) ?_⟩
   simp only[Ak.Kd]at jm
   obtain⟨ss,pm,so,e⟩:=jm
   simp only[Ak.Br]at BS
   obtain⟨o1,o2,o3,o4,o5,o6,o7⟩:=BS
   have la:as.length=ss.length:=by have:=congrArg List.length e;simpa using this.symm
   have lks:=pm.length_eq
   refine⟨_,rfl,t0,_,1,_,rfl,rfl,ht,Ca,_,rfl,.tab u ks _ L ws rfl (hu.up sG) hL ⟨by rw[Ak.BH,List.length_map];exact o1,by lia⟩ (by lia) o2 fun p ji H1 s1 np mx gp hp=>?_⟩
   have es:=CN gp so (mx.trans pm.symm)
   subst es
   have gs:=ht.up s1
   refine⟨_,rfl,t0,_,2,_,rfl,rfl,gs,at2,_,rfl,t0,_,3,_,rfl,rfl,gs,Aq (j:=3) rfl,G,H0,p,ji,ws,cs,z,ls,m,rfl,hp,jo.up (BX (fun b h=>h) fun b o _ h=>s1 _ _ h),by lia,mx.nodup_iff.mpr o2,by lia,gp,(fun b h=>hd b (s1.free h)),hd p np,(hz.up sG).up s1,o5,fun w H2 s2 vw=>q w _ H2 (s1.trans s2) vw (.tab mx gp e jn)⟩
end
end By
namespace By
open PySem L2
section
variable{P:Program} {w:World} {K:ADv} [Ar K] {mg:Str->Option Value} {base:Heap}
theorem Lx:Ah ["cells","more","just"] ["cells","more"] (AI EF):=⟨rfl,rfl,rfl,by decide+kernel,rfl,by decide+kernel,by decide+kernel⟩
theorem RA {f:Addr} {M:FuncData} (F:Ct K "good_row" "good_row" EF f M) (T:Txt mg) (c:Df P w K mg base "inner_just" ["holder"] 3 Gk):BG P w K mg base CW 4 f M ["cells","more"] Ht:=by
 obtain⟨n,r,d,g,j,k⟩:=c.ex
 refine F.ok Lx (fun Y H Q E h=>?_) (fun Z A outer s H Y Q E N h=>?_)
 ·obtain⟨B,L,ws,l,m,rfl,O,v,G,I,R,q⟩:=h
  rfl
 ·obtain⟨B,L,ws,l,m,rfl,O,v,G,I,R,q⟩:=h
  have nd:=Lx.nd
  have hu:=BU N
  have a:Al 3 _:=N.mono (by first|decide|omega)
  refine⟨_,(AF (AY (i:=2) nd rfl (Or.inl rfl) (AL k a rfl j d g .nil AX (AA (pv 0) AB)))
   (AF (Ai (PW.pt (pw_or (BA (pv 1)) (pw_or1 (AR Pz (pv 2) EI (AZ _))))) (AH (AN (BL (AA Ag (AA (pv 0) (AA (pv 1) AB)))))) AQ)
   (AH (AN (pv 2))))),?_⟩
  have len:=v.length
  rw[List.length_map]at len
  have S:Val (nw B H) (.ref L) (.lst (l.map Ak.pt)):=.lst (.inl (by rw[Av R];exact O)) v
  refine⟨_,rfl,B,.ref L,_,l,.lst,rfl,S,.row l (by omega),I,fun w D C hw=>?_⟩
  have up:∀{U:Hp},AG D U->Val (nw B U) (.ref L) (.lst (l.map Ak.pt)):=fun s2=>S.up (BX (fun b h=>h) fun b o _ h=>(C.trans s2) _ _ h)
  have t:∀p,D p=none->Val (nw B (upd D p (.tup [.str "row",.ref L,.bl m]))) (.ref p) (Ak.row l m).pt:=fun p u=>by
   simp only[Ak.pt]
   rw[Ak.BH]
   exact .tup (BY.of (by rw[Av (I p (C.free u)),AE])) (.cons (.str _) (.cons (up (AG.new u)) (.cons (.bl m) .nil)))
  have X:∀{x y z:V},[x,y,z].length<=sizeLine:=Ab (show 3<=1000 by decide)
  refine⟨_,rfl,_,rfl,?_⟩
  cases m with
  |true=>exact Bs (Bs ⟨_,rfl,_,rfl,X,fun p u=>q _ _ (C.trans (AG.new u)) (t p u)⟩)
  |false=>
   rcases hw with⟨J,rfl⟩|⟨ds,J,hw⟩
   ·have e:Ak.Bo l false=Ak.row l false:=by unfold Ak.Bo;rw[if_neg (by simp),J]
    rw[e]at q
    exact BJ ⟨_,rfl,rfl,_,rfl,Bs ⟨_,rfl,_,rfl,X,fun p u=>q _ _ (C.trans (AG.new u)) (t p u)⟩⟩
   ·have e:Ak.Bo l false=Ak.Ao (.lst ds):=by unfold Ak.Bo;rw[if_neg (by simp),J]
    rw[e]at q
    have nn:w≠.BO:=fun z=>by rw[z]at hw;cases hw
    exact BJ ⟨_,rfl,rfl,_,rfl,Aj (decide_eq_false nn) ⟨_,rfl,q w D C hw⟩⟩
end
end By
namespace By
open PySem L2
section
variable{P:Program} {w:World} {K:ADv} [Ar K] {mg:Str->Option Value} {base:Heap}
theorem II:Ah ["names","lacking","more","just"] ["names","lacking","more"] (AI Cd):=⟨rfl,rfl,rfl,by decide+kernel,rfl,by decide+kernel,by decide+kernel⟩
theorem NF {f:Addr} {fd:FuncData} (F:Ct K "good_table" "good_table" Cd f fd) (T:Txt mg) (d:Df P w K mg base "inner_just" ["holder"] 3 Gk):BG P w K mg base CW 4 f fd ["names","lacking","more"] Hu:=by
 obtain⟨u,v,g,j,k,l⟩:=d.ex
 refine F.ok II (fun vs H Q E h=>?_) (fun IV A outer s H vs Q E hr h=>?_)
 ·obtain⟨G,N,L,r,ws,t,z,X,m,rfl,hL,I,hlen,O,R,S,U,nL,hz,Y,q⟩:=h
  rfl
 ·obtain⟨G,N,L,r,ws,t,z,X,m,rfl,hL,I,hlen,O,R,S,U,nL,hz,Y,q⟩:=h
  have nd:=II.nd
  have hu:=BU hr
  have c:Al 3 _:=hr.mono (by first|decide|omega)
  refine⟨_,(AF (Ai (BA (pv 2)) (AH (AN (BL (AA Ag (AA (pv 0) (AA (Bd EL rfl T.list Bv (AA (pv 1) AB)) (AA Cg AB))))))) AQ)
   (AF (AY (i:=3) nd rfl (Or.inl rfl) (AL l c rfl k g j .nil AX (AA (pv 0) AB)))
   (AF (Ai (AR Pz (pv 3) EI (AZ _)) (AH (AN (BL (AA Ag (AA (pv 0) (AA (A_ AB) (AA Cg AB))))))) AQ)
   (AH (AN (pv 3)))))),?_⟩
  have len:=I.length
  rw[List.length_map]at len
  have vL:Val (nw N H) (.ref L) (.BF r (t.map Ak.pt)):=.BF (kvs:=EH r ws) (.inl (by rw[Av nL];exact hL)) (CT hlen) (by rw[EB hlen];exact I)
  have up:∀{H2:Hp},AG H H2->Val (nw N H2) (.ref L) (.BF r (t.map Ak.pt)):=fun s2=>vL.up (BX (fun b h=>h) fun b o _ h=>s2 _ _ h)
  have tl:∀{x y z w:V},[x,y,z,w].length<=sizeLine:=Ab (show 4<=1000 by decide)
  have B:∀{J:Hp} {C:Addr} {zs:List Str} {m:Bool},AG H J->H C=none->J C=some (.lst (zs.map V.str))->∀p,J p=none->Val (nw N (upd J p (.tup [.str "table",.ref L,.ref C,.bl m]))) (.ref p) (Ak.tab r t zs m).pt:=fun{J C zs m} M n2 h2 p D=>by
   simp only[Ak.pt]
   rw[Ak.BH]
   have sp:=AG.new (o:=.tup [.str "table",.ref L,.ref C,.bl m]) D
   exact .tup (BY.of (by rw[Av (U p (M.free D)),AE])) (.cons (.str _) (.cons (up (M.trans sp)) (.cons (.lst (.inl (by rw[Av (U C n2)];exact sp _ _ h2)) (Od zs)) (.cons (.bl m) .nil))))
  cases m with
  |true=>
   cases hz with
   |@lst a vs _ ha ra=>
    have ev:=Fx ra
    subst ev
    refine⟨_,rfl,_,rfl,Bs ⟨_,rfl,_,rfl,a,_,rfl,.inl (.inl ha),fun C n=>⟨tl,fun p D=>?_⟩⟩⟩
    exact q _ _ ((AG.new n).trans (AG.new D)) (B (AG.new n) n AE p D)
  |false=>
   refine⟨_,rfl,_,rfl,BJ ?_⟩
   refine⟨_,rfl,N,.ref L,_,t,.BF r,rfl,vL,.tab r t (by omega) O R S,U,fun w J M hw=>?_⟩
   rcases hw with⟨Z,rfl⟩|⟨ds,Z,hw⟩
   ·have e:Ak.Bp r t X false=Ak.tab r t [] false:=by unfold Ak.Bp;rw[if_neg (by simp),Z]
    rw[e]at q
    exact⟨_,rfl,rfl,_,rfl,Bs ⟨_,rfl,Nat.zero_le _,fun C n=>⟨tl,fun p D=>q _ _ ((M.trans (AG.new n)).trans (AG.new D)) (B (zs:=[]) (M.trans (AG.new n)) (M.free n) AE p D)⟩⟩⟩
   ·have e:Ak.Bp r t X false=Ak.Ao (.BF r ds):=by unfold Ak.Bp;rw[if_neg (by simp),Z]
    rw[e]at q
    have nn:w≠.BO:=fun z=>by rw[z]at hw;cases hw
    exact⟨_,rfl,rfl,_,rfl,Aj (decide_eq_false nn) ⟨_,rfl,q w J M hw⟩⟩
end
end By
namespace By
open PySem L2
section
variable{P:Program} {w:World} {K:ADv} [Ar K] {mg:Str->Option Value} {base:Heap}
theorem PU:Ah ["asks","path","found"] ["asks","path"] (AI Ff):=⟨rfl,rfl,rfl,by decide+kernel,rfl,by decide+kernel,by decide+kernel⟩
theorem T_ {f:Addr} {M:FuncData} (F:Ct K "asks_at" "asks_at" Ff f M) (T:Txt mg) (n:Df P w K mg base "good_form" ["asks"] 7 Im) (d:Df P w K mg base "found_asks" ["asks","path"] 2 KH):BG P w K mg base CW 8 f M ["asks","path"] KI:=by
 obtain⟨y,z,o,q,r,t⟩:=n.ex
 obtain⟨u,x,e,j,k,l⟩:=d.ex
 refine F.ok PU (fun X H Q E h=>?_) (fun Y A outer s H X Q E I h=>?_)
 ·obtain⟨v,a,p,N,rfl,O,B,J,C,R,S,U⟩:=h
  rfl
 ·obtain⟨v,a,p,N,rfl,O,B,J,C,R,S,U⟩:=h
  have nd:=PU.nd
  have hu:=BU I
  have m:Al 7 _:=I.mono (by first|decide|omega)
  have c:Al 2 _:=I.mono (by first|decide|omega)
  refine⟨_,(AF (AY (i:=2) nd rfl (Or.inl rfl) (AL l c rfl k e j .nil AX (AA (pv 0) (AA (pv 1) AB))))
   (AF (Ai (AR Pz (pv 2) EI (AZ _)) (AH (AN EI)) AQ)
   (AH (AN (AL t m rfl r o q .nil AX (AA (pv 2) AB)))))),?_⟩
  refine⟨_,rfl,_,rfl,v,a,p,N,rfl,O,B,J,C,R,fun w b L D G V=>?_,fun D L G=>?_⟩
  ·obtain⟨Z,bs,bw,_⟩:=Ak.Mz B J D
   obtain⟨t0,w0,rest,rfl,_,_⟩:=V.ak
   refine⟨_,rfl,rfl,_,rfl,BJ ?_⟩
   exact⟨_,rfl,L,_,b,rfl,AG.refl _,V,Z,by lia,fun w g H2 s2 vg gd=>S b w g H2 D (G.trans s2) (vg.up (BX (fun _ h=>G.free h) fun _ _ _ h=>h)) gd⟩
  ·exact⟨_,rfl,rfl,_,rfl,Bs (U D L G)⟩
end
end By
namespace By
open PySem L2
section
variable{P:Program} {w:World} {K:ADv} [Ar K] {mg:Str->Option Value} {base:Heap}
theorem IJ:Ah ["asks","path","found","step"] ["asks","path"] (AI Ce):=⟨rfl,rfl,rfl,by decide+kernel,rfl,by decide+kernel,by decide+kernel⟩
theorem NG {f:Addr} {fd:FuncData} (F:Ct K "found_asks" "found_asks" Ce f fd) (T:Txt mg) (I:Df P w K mg base "holds" ["doc","step"] 1 KG):BG P w K mg base CW 2 f fd ["asks","path"] KH:=by
 obtain⟨my,m_,J,L,M,N⟩:=I.ex
 refine F.ok IJ (fun vs H Q E h=>?_) (fun IV A outer s H vs Q E hr h=>?_)
 ·obtain⟨v,a,p,ks,rfl,hv,X,hs,Wj,hp,q1,q2⟩:=h
  rfl
 ·obtain⟨v,a,p,ks,rfl,hv,X,hs,Wj,hp,q1,q2⟩:=h
  have nd:=IJ.nd
  have hu:=BU hr
  have y:Al 1 _:=hr.mono (by first|decide|omega)
  refine⟨_,(AF (AY (i:=2) nd rfl (Or.inl rfl) (pv 0))
   (AF (CD PassesOwn.never rfl (MD (pv 1)) (Bh (i:=3) nd rfl (Or.inl rfl)) (AF (Ai (PW.pt (pw_or (AR Bl (AO (r:=Aw K) AU (pv 2) AD (fun _ _=>rfl)) Ag (AZ _)) (pw_or1 (DA (BA (AL N y rfl M J L .nil AX (AA (AO (r:=Aw K) AU (pv 2) AD (fun _ _=>rfl)) (AA (pv 3) AB)))))))) (AH (AN EI)) AQ)
   (AH (Ai (AR Bl (AO (r:=Aw K) AU (pv 2) AD (fun _ _=>rfl)) Ag (AZ _)) (AH (AY (i:=2) nd rfl (Or.inl rfl) (BL (AA Ag (AA (DH (AO (r:=B' K) As (AO (r:=Aw K) AU (pv 2) AD (fun _ _=>rfl)) (pv 3) (fun _ _=>rfl)) (Bx hu (AO (r:=Aw K) AU (pv 2) AD (fun _ _=>rfl)) (pv 3) (fun _ _=>rfl))) AB))))) (AH (AY (i:=2) nd rfl (Or.inl rfl) (DH (AO (r:=B' K) As (AO (r:=Aw K) AU (pv 2) AD (fun _ _=>rfl)) (pv 3) (fun _ _=>rfl)) (Bx hu (AO (r:=Aw K) AU (pv 2) AD (fun _ _=>rfl)) (pv 3) (fun _ _=>rfl)))))))))
   (AH (AN (pv 2))))),?_⟩
  have Y:H p=some (.tup (ks.map kV)):=hp
  refine⟨_,rfl,_,rfl,p,rfl,⟨_,.of Y⟩,ME (K:=K) (xs:=ks.map kV) (fun i σ G=>∃(Z:V) (b:Ak) (o:Option V),σ=[some v,some (.ref p),some Z,o]/\a.sub (ks.take i)=some b/\Val G Z b.pt/\AG H G) ⟨v,a,none,rfl,rfl,hv,AG.refl _⟩ (fun i σ G _ ⟨_,_,_,_,_,_,s⟩=>.of (s _ _ Y)) ?_ ?_⟩
  ·rintro i x σ G hx ⟨Z,b,o,rfl,hb,vb,O⟩
   rw[List.getElem?_map]at hx
   cases hk:ks[i]? with
   |none=>rw[hk]at hx;cases hx
   |some k=>
    rw[hk]at hx
    cases hx
    obtain⟨bG,bs,bw,_⟩:=Ak.Mz X hs hb
    have st:=Ak.Wb hb hk
    have no:b.Ec k=none->Q .BO G:=fun e=>q2 (Ak.Ym (st.trans e)) G O
    obtain⟨q,w0,rest,rfl,g,kinds⟩:=vb.ak
    rcases kinds with⟨rfl,rfl,rfl⟩|⟨d,u,rfl,rfl,rfl,l⟩|⟨xs,m,u,rfl,rfl,rfl,l⟩|⟨ns,xs,ls,m,u,z,rfl,rfl,rfl,l,hz⟩
    ·exact⟨_,rfl,q,_,0,_,rfl,rfl,g,Cw,rfl,_,rfl,BK (by decide+kernel) (no (by cases k<;>rfl))⟩
    ·simp only[Ak.Br]at bG
     simp only[Ak.wt]at bw
     refine⟨_,rfl,q,_,0,_,rfl,rfl,g,Cw,rfl,_,rfl,Aj (by decide+kernel) ?_⟩
     refine⟨_,rfl,q,_,1,u,rfl,rfl,g,Ca,_,rfl,u,d,k,rfl,l,TZ bG (by lia),?_⟩
     cases t:d.Gu k with
     |none=>exact⟨_,rfl,Bs (no (by simp only[Ak.Ec];rw[t];rfl))⟩
     |some e=>
      obtain⟨w,R,nt⟩:=l.Qv t
      have n:Ak.sub a (ks.take (i+1))=some (.Ao e):=st.trans (by simp only[Ak.Ec];rw[t];rfl)
      refine⟨_,rfl,BJ ?_⟩
      refine⟨_,rfl,q,_,0,_,rfl,rfl,g,Cw,rfl,_,rfl,BK (by decide+kernel) ?_⟩
      have vj:∀{pT:Addr} (h:G pT=none),Val (upd G pT (.tup [.str "just",w])) (.ref pT) (Ak.Ao e).pt:=fun h=>.tup (.of AE) (.cons (.str _) (.cons (R.up (AG.new h)) .nil))
      cases nt with
      |pl a2 wN j B C x2 D=>exact .inl ⟨_,rfl,q,_,1,u,rfl,rfl,g,Ca,_,rfl,a2,_,_,_,B,x2,.inl C,Aq D,Ax,fun pT hT=>⟨_,_,_,rfl,n,vj hT,O.trans (AG.new hT)⟩⟩
      |nm a2 kvs B C D=>exact .inr ⟨_,rfl,q,_,1,u,rfl,rfl,g,Ca,_,rfl,a2,w,B,.inl ⟨_,k,C,rfl,D.symm⟩,Ax,fun pT hT=>⟨_,_,_,rfl,n,vj hT,O.trans (AG.new hT)⟩⟩
    ·have t:=Ak.SA (xs:=xs) (m:=m) (k:=k)
     obtain⟨e,S⟩:∃e,(Ak.row xs m).Ec k=e:=⟨_,rfl⟩
     rw[S]at t
     have hold:DY (.lst (Ak.Fh xs)):=by
      have:=Ak.CV xs
      have:=Ak.Cn xs
      simp only[Ak.wt]at bw
      simp only[DY,Ak.BH,List.length_map]
      lia
     refine⟨_,rfl,q,_,0,_,rfl,rfl,g,Cw,rfl,_,rfl,Aj (by decide+kernel) ?_⟩
     refine⟨_,rfl,q,_,1,u,rfl,rfl,g,Ca,_,rfl,u,_,k,rfl,l,hold,?_⟩
     rw[t]
     cases U:e with
     |none=>exact⟨_,rfl,Bs (no (S.trans U))⟩
     |some c=>
      rw[U]at t
      obtain⟨w,R,nt⟩:=l.Qv t
      have n:=st.trans (S.trans U)
      refine⟨_,rfl,BJ ?_⟩
      refine⟨_,rfl,q,_,0,_,rfl,rfl,g,Cw,rfl,_,rfl,Aj (by decide+kernel) ?_⟩
      cases nt with
      |pl a2 wN j B C x2 D=>exact .inl ⟨_,rfl,q,_,1,u,rfl,rfl,g,Ca,_,rfl,a2,_,_,_,B,x2,.inl C,Aq D,_,_,_,rfl,n,R,O⟩
      |nm a2 kvs B C D=>exact .inr ⟨_,rfl,q,_,1,u,rfl,rfl,g,Ca,_,rfl,a2,w,B,.inl ⟨_,k,C,rfl,D.symm⟩,_,_,_,rfl,n,R,O⟩
    ·have t:=Ak.SD (ks:=ns) (ls:=ls) (xs:=xs) (m:=m) (k:=k)
     obtain⟨e,S⟩:∃e,(Ak.tab ns xs ls m).Ec k=e:=⟨_,rfl⟩
     rw[S]at t
     have hold:DY (.BF ns (Ak.Fh xs)):=by
      simp only[Ak.Br]at bG
      simp only[DY,Ak.BH,List.length_map]
      lia
     refine⟨_,rfl,q,_,0,_,rfl,rfl,g,Cw,rfl,_,rfl,Aj (by decide+kernel) ?_⟩
     refine⟨_,rfl,q,_,1,u,rfl,rfl,g,Ca,_,rfl,u,_,k,rfl,l,hold,?_⟩
     rw[t]
     cases U:e with
     |none=>exact⟨_,rfl,Bs (no (S.trans U))⟩
     |some c=>
      rw[U]at t
      obtain⟨w,R,nt⟩:=l.Qv t
      have n:=st.trans (S.trans U)
      refine⟨_,rfl,BJ ?_⟩
      refine⟨_,rfl,q,_,0,_,rfl,rfl,g,Cw,rfl,_,rfl,Aj (by decide+kernel) ?_⟩
      cases nt with
      |pl a2 wN j B C x2 D=>exact .inl ⟨_,rfl,q,_,1,u,rfl,rfl,g,Ca,_,rfl,a2,_,_,_,B,x2,.inl C,Aq D,_,_,_,rfl,n,R,O⟩
      |nm a2 kvs B C D=>exact .inr ⟨_,rfl,q,_,1,u,rfl,rfl,g,Ca,_,rfl,a2,w,B,.inl ⟨_,k,C,rfl,D.symm⟩,_,_,_,rfl,n,R,O⟩
  ·rintro σ G ⟨Z,b,o,rfl,hb,vb,O⟩
   rw[List.length_map,List.take_length]at hb
   exact⟨_,rfl,q1 Z b G hb O vb⟩
end
end By
namespace By
open PySem L2
section
variable{P:Program} {w:World} {K:ADv} [Ar K] {mg:Str->Option Value} {base:Heap}
theorem Wv:Ah ["_law_script","_law_k"] ["_law_script","_law_k"] (AI Lr):=⟨rfl,rfl,rfl,by decide+kernel,rfl,by decide+kernel,by decide+kernel⟩
theorem Yx {f:Addr} {d:FuncData} (F:Ct K "_law_cell" "_law_cell" Lr f d) (T:Txt mg):BG P w K mg base CW 1 f d ["_law_script","_law_k"] (QP K):=by
 refine F.ok Wv (fun g H Q E h=>?_) (fun i A outer s H g Q E j h=>?_)
 ·obtain⟨a,b,k,rfl,c,q⟩:=h
  rfl
 ·obtain⟨a,b,k,rfl,c,q⟩:=h
  have nd:=Wv.nd
  have n:=BU j
  refine⟨_,(AF (Ai (AR Iy (pv 1) (AM Ad rfl T.len PySem.boot_len (AA (pv 0) AB)) (AZ _)) (AH (AN (AS BI (AO (r:=B' K) As (pv 0) (pv 1) (fun _ _=>rfl)) (AS Er AD (AS Px AD AD))))) AQ)
   (AH (AN (AS Bq AD (AS Er AD (pv 1)))))),?_⟩
  refine⟨_,rfl,_,rfl,a,_,rfl,.inl c,_,_,rfl,rfl,_,rfl,?_⟩
  refine Us (fun e=>?_) (fun e=>?_)
  ·have l:k<b.length:=by
    have:=of_decide_eq_true e
    rw[List.length_map]at this
    omega
   have m:(b.map V.int)[k]?=some (.int b[k]):=by rw[List.getElem?_map,ADr l];rfl
   exact⟨_,rfl,_,rfl,a,_,_,_,rfl,rfl,c,Aq m,_,_,rfl,rfl,⟨by decide,by decide,by decide⟩,_,_,rfl,rfl,.inl ⟨by decide,by decide⟩,_,_,rfl,rfl,(by show(0:Int)<_;decide),q _ (Int.emod_nonneg _ (by decide))⟩
  ·exact⟨_,rfl,_,_,rfl,rfl,.inl ⟨by decide,by decide⟩,_,_,rfl,rfl,q _ (by omega)⟩
end
end By
namespace By
open PySem L2
section
variable{P:Program} {w:World} {K:ADv} [Ar K] {mg:Str->Option Value} {base:Heap}
theorem aR:Ah ["_law_cell_here","_law_k","_law_number","_law_j"] ["_law_cell_here","_law_k"] (AI Qw):=⟨rfl,rfl,rfl,by decide+kernel,rfl,by decide+kernel,by decide+kernel⟩
theorem cg {f:Addr} {n:FuncData} (F:Ct K "_law_mix" "_law_mix" Qw f n) (T:Txt mg):BG P w K mg base CW 1 f n ["_law_cell_here","_law_k"] VL:=by
 refine F.ok aR (fun p H Q E h=>?_) (fun r A outer s H p Q E t h=>?_)
 ·obtain⟨c,k,rfl,u,q⟩:=h
  rfl
 ·obtain⟨c,k,rfl,u,q⟩:=h
  have nd:=aR.nd
  have v:=BU t
  refine⟨_,(AF (Ai (PW.pt (pw_and (AR Bl (AS BI (pv 0) AD) AD (AZ _)) (pw_and1 (AR fH (pv 0) (AS Er AD (AS Px AD AD)) (AZ _))))) (AF (AY (i:=2) nd rfl (Or.inl rfl) (AS B_ (pv 0) AD))
   (AF (CD PassesOwn.never rfl (Bc rfl T.range (AA (pv 1) AB)) (Bh (i:=3) nd rfl (Or.inl rfl)) (AH (AY (i:=2) nd rfl (Or.inl rfl) (AS B_ (pv 2) AD))))
   (AH (AN (AS BI (pv 2) AD))))) AQ)
   (AF (AY (i:=2) nd rfl (Or.inl rfl) (AS BI (AS Er (AS Bq (pv 0) AD) AD) AD))
   (AF (AY (i:=2) nd rfl (Or.inl rfl) (AS BI (AS Bq (pv 2) (AS Er (AS Bq (pv 1) AD) AD)) AD))
   (AF (AY (i:=2) nd rfl (Or.inl rfl) (AS BI (AS Er (pv 2) (pv 2)) AD))
   (AF (AY (i:=2) nd rfl (Or.inl rfl) (AS BI (AS Er (AS Bq (pv 2) AD) (AS Bq (AS B_ (pv 2) AD) AD)) AD))
   (AH (AN (AS B_ (pv 2) AD)))))))),?_⟩
  have lo:∀x:Int,-(2 ^ 64)<x % 2305843009213693951/\x % 2305843009213693951<2 ^ 64:=fun x=>by
   have b:=Int.emod_nonneg x (show(2305843009213693951:Int)≠0 by decide)
   have d:=Int.emod_lt_of_pos x (show(0:Int)<2305843009213693951 by decide)
   constructor<;>omega
  have lo1:∀x:Int,-(2 ^ 64)<x % 999999999999999989+1/\x % 999999999999999989+1<2 ^ 64:=fun x=>by
   have b:=Int.emod_nonneg x (show(999999999999999989:Int)≠0 by decide)
   have d:=Int.emod_lt_of_pos x (show(0:Int)<999999999999999989 by decide)
   constructor<;>omega
  have o:¬(c % 4=0/\4*10 ^ 60<=c)->Q (.int ((Ny c k+1)*(Ny c k/1000003+7) % 2305843009213693951/7919)) H:=fun h=>by
   have e:TF c k=_:=if_neg h
   rw[e]at q
   exact q
  refine⟨_,rfl,_,_,rfl,rfl,(by show(0:Int)<_;decide),rfl,_,rfl,?_⟩
  refine Us (fun b=>?_) (fun b=>?_)
  ·refine⟨_,rfl,_,_,rfl,rfl,⟨by decide,by decide,by decide⟩,_,_,rfl,rfl,.inl ⟨by decide,by decide⟩,_,_,rfl,rfl,_,rfl,?_⟩
   have c4:c % 4=0:=V.int.inj (of_decide_eq_true b)
   refine Us (fun d=>?_) (fun d=>?_)
   ·have g:4*10 ^ 60<=c:=of_decide_eq_true d
    have e:TF c k=_:=if_pos ⟨c4,g⟩
    rw[e]at q
    refine⟨_,rfl,_,_,rfl,rfl,⟨by decide,by decide⟩,?_⟩
    refine⟨_,rfl,_,rfl,by omega,by omega,Dn (lo:=0) (fun i j l=>∃(m:Option V),j=[some (.int c),some (.int (k:Int)),some (.int (VI i (c/4))),m]/\l=H) ⟨none,rfl,rfl⟩ ?_ ?_⟩
    ·rintro i j l y ⟨m,rfl,rfl⟩
     exact⟨_,rfl,_,_,rfl,rfl,⟨by decide,by decide⟩,_,rfl,rfl⟩
    ·rintro j l ⟨m,rfl,rfl⟩
     rw[Int.toNat_natCast]
     exact⟨_,rfl,_,_,rfl,rfl,(by show(0:Int)<_;decide),q⟩
   ·have a:¬(c % 4=0/\4*10 ^ 60<=c):=fun z=>d (decide_eq_true z.2)
    refine⟨_,rfl,_,_,rfl,rfl,_,_,rfl,rfl,.inr ⟨by decide,by decide⟩,_,_,rfl,rfl,(by show(0:Int)<_;decide),?_⟩
    refine⟨_,rfl,_,rfl,_,_,rfl,rfl,_,_,rfl,rfl,.inr ⟨by decide,by decide⟩,_,_,rfl,rfl,_,_,rfl,rfl,(by show(0:Int)<_;decide),?_⟩
    refine⟨_,rfl,_,rfl,_,_,rfl,rfl,.inl (lo _),_,_,rfl,rfl,(by show(0:Int)<_;decide),?_⟩
    refine⟨_,rfl,_,_,rfl,rfl,_,rfl,_,_,rfl,rfl,⟨by decide,by decide⟩,_,_,rfl,rfl,_,_,rfl,rfl,.inl (lo1 _),_,_,rfl,rfl,(by show(0:Int)<_;decide),?_⟩
    exact⟨_,rfl,_,_,rfl,rfl,⟨by decide,by decide⟩,o a⟩
  ·refine BJ ?_
   have a:¬(c % 4=0/\4*10 ^ 60<=c):=fun z=>b (decide_eq_true (congrArg V.int z.1))
   refine⟨_,rfl,_,_,rfl,rfl,_,_,rfl,rfl,.inr ⟨by decide,by decide⟩,_,_,rfl,rfl,(by show(0:Int)<_;decide),?_⟩
   refine⟨_,rfl,_,rfl,_,_,rfl,rfl,_,_,rfl,rfl,.inr ⟨by decide,by decide⟩,_,_,rfl,rfl,_,_,rfl,rfl,(by show(0:Int)<_;decide),?_⟩
   refine⟨_,rfl,_,rfl,_,_,rfl,rfl,.inl (lo _),_,_,rfl,rfl,(by show(0:Int)<_;decide),?_⟩
   refine⟨_,rfl,_,_,rfl,rfl,_,rfl,_,_,rfl,rfl,⟨by decide,by decide⟩,_,_,rfl,rfl,_,_,rfl,rfl,.inl (lo1 _),_,_,rfl,rfl,(by show(0:Int)<_;decide),?_⟩
   exact⟨_,rfl,_,_,rfl,rfl,⟨by decide,by decide⟩,o a⟩
theorem Yy {f:Addr} {a:FuncData} (F:Ct K "_law_mix" "_law_mix" Qw f a) (T:Txt mg):BG P w K mg base CW 1 f a ["_law_cell_here","_law_k"] Fo:=(cg F T).imp fun _ _ _ _ h=>VM h
end
end By
namespace By
open PySem L2
section
variable{P:Program} {w:World} {K:ADv} [Ar K] {mg:Str->Option Value} {base:Heap}
theorem SH:Ah ["_law_cell_here","_law_letters","_law_word","_law_k","_law_at","_law_first"] ["_law_cell_here"] (AI Hy):=⟨rfl,rfl,rfl,by decide+kernel,rfl,by decide+kernel,by decide+kernel⟩
theorem Ww {f:Addr} {fd:FuncData} (F:Ct K "_law_names" "_law_names" Hy f fd) (T:Txt mg) (S:Df P w K mg base "_law_mix" ["_law_cell_here","_law_k"] 1 Fo):BG P w K mg base CW 2 f fd ["_law_cell_here"] Jf:=by
 obtain⟨Yz,Y_,g,k,l,o⟩:=S.ex
 refine F.ok SH (fun G H Q E h=>?_) (fun IV A outer s H G Q E hr h=>?_)
 ·obtain⟨c,rfl,q⟩:=h
  rfl
 ·obtain⟨c,rfl,q⟩:=h
  have nd:=SH.nd
  have hu:=BU hr
  have a:Al 1 _:=hr.mono (by first|decide|omega)
  refine⟨_,(AF (AY (i:=1) nd rfl (Or.inr rfl) Ag)
   (AF (AY (i:=2) nd rfl (Or.inr rfl) Ag)
   (AF (CD PassesOwn.never rfl (Bc rfl T.range (AA AD AB)) (Bh (i:=3) nd rfl (Or.inl rfl)) (AH (AY (i:=2) nd rfl (Or.inr rfl) (AS EK (AS EK (pv 2) (AO P' (pv 1) (AS BI (AL o a rfl l g k .nil AX (AA (pv 0) (AA (pv 3) AB))) AD) (fun _ _=>rfl))) (AO P' (pv 1) (AS BI (AS B_ (AL o a rfl l g k .nil AX (AA (pv 0) (AA (pv 3) AB))) AD) AD) (fun _ _=>rfl))))))
   (AF (AY (i:=4) nd rfl (Or.inr rfl) (AS BI (AL o a rfl l g k .nil AX (AA (pv 0) (AA AD AB))) AD))
   (AF (AY (i:=5) nd rfl (Or.inr rfl) (AL o a rfl l g k .nil AX (AA (pv 0) (AA AD AB))))
   (AF (Ai (AR Bl (AS BI (pv 5) AD) AD (AZ _)) (AH (AN (Bb (fv:=["_law_word","_law_first"]) (fs:=[2,5]) rfl (.of (by rfl)) (Bc rfl T.range (AA AD AB)) (fun _ _ _ _=>Bi) (fun C s0 H0 fp=>(DD MR (pv 1) FJ (DV (AS Bq (AS Bq (pv 0) AD) (AS BI (AS B_ (pv 2) AD) AD)))))))) AQ)
   (AH (AN (Bb (fv:=["_law_word","_law_letters","_law_at","_law_first"]) (fs:=[2,1,4,5]) rfl (.of (by rfl)) (Bc rfl T.range (AA AD AB)) (fun _ _ _ _=>Bi) (fun C s0 H0 fp=>(AS EK (AS EK (DD MR (pv 1) FJ (DV (pv 3))) (AO P' (pv 2) (AS BI (AS Bq (AS B_ (pv 4) AD) (pv 0)) AD) (fun _ _=>rfl))) (DD MR (pv 1) (DV (AS Bq (pv 3) AD)) FJ)))))))))))),?_⟩
  have gen:∀(G:List V),(∀(j:Nat) v,G[j]?=some v->∃y:Str,v=.str y)->∃ys:List Str,G=ys.map V.str:=by
   intro G
   induction G with
   |nil=>exact fun _=>⟨[],rfl⟩
   |cons v r ih=>
    intro h
    obtain⟨y,rfl⟩:=h 0 v rfl
    obtain⟨ys,rfl⟩:=ih fun j v d=>h (j+1) v (by simpa using d)
    exact⟨y::ys,rfl⟩
  refine⟨4,rfl,by decide,by decide,Dn (lo:=0) (n:=4) (fun i σ p=>∃(W:Str) (ok:Option V),σ=[some (.int c),some (.str Z_),some (.str W),ok,none,none]/\p=H/\(sgn W).length=2*i/\(sgn W).all Zw=true) ⟨"",none,rfl,rfl,rfl,rfl⟩ ?_ ?_⟩
  ·rintro i σ p J ⟨W,ok,rfl,rfl,wl,U⟩
   have M:W.length=2*i:=by rw[<-JL];exact wl
   refine⟨_,rfl,_,rfl,_,rfl,_,rfl,c,i,by simp,by lia,fun u _ _=>?_⟩
   obtain⟨x,t,hl⟩:=QO (u % 26) (GR _).1 (GR _).2
   have l1:(W++(⟨#[x]⟩:Str)).length<=8:=by rw[Str.length_append];show _+1<=8;lia
   refine⟨_,_,rfl,rfl,(by show(0:Int)<_;decide),Z_,_,x,rfl,rfl,by rw[MX];decide,t,_,_,rfl,rfl,Nat.le_of_lt (BV (by show W.length+1<=1000;lia)),_,rfl,_,rfl,_,rfl,c,i,by simp,by lia,fun N _ _=>?_⟩
   obtain⟨X,Y,Wx⟩:=QO (N/26 % 26) (GR _).1 (GR _).2
   refine⟨_,_,rfl,rfl,⟨by decide,by decide⟩,_,_,rfl,rfl,(by show(0:Int)<_;decide),Z_,_,X,rfl,rfl,by rw[MX];decide,Y,_,_,rfl,rfl,Nat.le_of_lt (BV (by show(W++(⟨#[x]⟩:Str)).length+1<=1000;lia)),_,_,rfl,rfl,?_,?_⟩
   ·rw[Bz,Bz,List.length_append,List.length_append,wl]
    show 2*i+1+1=2*(i+1)
    lia
   ·rw[Bz,Bz]
    show(sgn W++[x]++[X]).all Zw=true
    simp[hl,Wx,U]
  ·rintro σ p ⟨W,ok,rfl,rfl,I,U⟩
   have I:(sgn W).length=8:=I
   have M:W.length=8:=by rw[<-JL];exact I
   refine⟨_,rfl,c,4,rfl,by decide,fun u _ _=>⟨_,_,rfl,rfl,(by show(0:Int)<_;decide),?_⟩⟩
   have b1:=Dx u (n:=8) (by decide)
   obtain⟨Ca,Z⟩:∃z:Nat,u % 8=(z:Int):=⟨(u % 8).toNat,by lia⟩
   have b2:Ca<8:=by lia
   refine⟨_,rfl,c,5,rfl,by decide,fun N r20 _=>?_⟩
   refine⟨_,rfl,_,_,rfl,rfl,(by show(0:Int)<_;decide),rfl,_,rfl,?_⟩
   refine Us (fun _=>?_) (fun _=>?_)
   ·have m5:=Dx (N/3) (n:=5) (by decide)
    obtain⟨b,B⟩:∃z:Int,z=N/3 % 5:=⟨_,rfl⟩
    rw[<-B]at m5
    refine⟨4,rfl,by decide,by decide,CQ (n:=4) (fun i=>.int (0+(i:Int))) (fun i v=>∃y:Str,v=.str y/\CB y=true/\((sgn y).length:Int)=(i:Int)+1+b) (by decide) (fun i H2 J s2=>J) (fun i H2 v H' J s2 y=>⟨y.2,y.1⟩) (fun H2 s2=>Nat.le_refl _) (fun i p R J s3 r=>?_) (fun D3 p G L s3 d3 lv ov=>?_)⟩
    ·refine⟨_,rfl,_,rfl,_,_,rfl,rfl,_,rfl,_,_,rfl,rfl,⟨by decide,by decide⟩,_,_,rfl,rfl,(by show(0:Int)<_;decide),_,_,rfl,rfl,_,rfl,W,rfl,by rw[M];decide,r _ p (AG.refl p) ⟨_,rfl,?_,?_⟩⟩
     ·rw[<-B]
      obtain⟨n,hn⟩:∃n:Nat,0+(i:Int)+1+b=(n:Int):=⟨(0+(i:Int)+1+b).toNat,by lia⟩
      show Nv (sgn (Txt.slice W none (some (0+(i:Int)+1+b))))=true
      rw[hn,Dv,MV]
      refine Nx ?_ ?_ (Nw U n)
      ·rw[List.length_take,I];lia
      ·rw[List.length_take,I];lia
     ·rw[<-B]
      obtain⟨n,hn⟩:∃n:Nat,0+(i:Int)+1+b=(n:Int):=⟨(0+(i:Int)+1+b).toNat,by lia⟩
      rw[hn,Dv,MV,List.length_take,I]
      lia
    ·obtain⟨O,rfl⟩:=gen G fun j v d=>let⟨y,e,_⟩:=ov j v d;⟨y,e⟩
     have D:∀(j:Nat) y,O[j]?=some y->CB y=true/\((sgn y).length:Int)=(j:Int)+1+b:=fun j y d=>by
      obtain⟨y',e,h1,h2⟩:=ov j (.str y) (by rw[List.getElem?_map,d];rfl)
      cases e
      exact⟨h1,h2⟩
     refine q D3 O p s3 L ⟨d3,by rw[<-lv,List.length_map],Nz (fun j y=>((sgn y).length:Int)=(j:Int)+1+b) (fun j y d=>(D j y d).2) fun i j y zj _ p1 p2=>by lia,fun y hy=>?_⟩
     obtain⟨j,d,rfl⟩:=List.mem_iff_getElem.mp hy
     exact(D j _ (ADr d)).1
   ·obtain⟨zk,zm⟩:∃z:Int,z=u % 8:=⟨_,rfl⟩
    obtain⟨b,B⟩:∃z:Int,z=N/3:=⟨_,rfl⟩
    refine⟨4,rfl,by decide,by decide,CQ (n:=4) (fun i=>.int (0+(i:Int))) (fun i v=>∃y:Str,v=.str y/\CB y=true/\(sgn y)[Ca]?=U'[((b+(i:Int)) % 26).toNat]?) (by decide) (fun i H2 J s2=>J) (fun i H2 v H' J s2 y=>⟨y.2,y.1⟩) (fun H2 s2=>Nat.le_refl _) (fun i p R J s3 r=>?_) (fun D3 p G L s3 d3 lv ov=>?_)⟩
    ·obtain⟨x,t,hl⟩:=QO ((N/3+(0+(i:Int))) % 26) (GR _).1 (GR _).2
     have l1:(Txt.slice W none (some (u % 8))).length<=8:=by rw[<-M];exact Txt.slice_le W _ _
     have l2:(Txt.slice W (some (u % 8+1)) none).length<=8:=by rw[<-M];exact Txt.slice_le W _ _
     have l3:(Txt.slice W none (some (u % 8))++(⟨#[x]⟩:Str)).length<=9:=by rw[Str.length_append];show _+1<=9;lia
     refine⟨_,rfl,_,rfl,_,rfl,W,rfl,by rw[M];decide,_,rfl,_,rfl,_,_,rfl,rfl,⟨by decide,by decide⟩,_,rfl,_,_,rfl,rfl,_,_,rfl,rfl,(by show(0:Int)<_;decide),Z_,_,x,rfl,rfl,by rw[MX];decide,t,_,_,rfl,rfl,?_,_,rfl,_,rfl,_,_,rfl,rfl,_,rfl,W,rfl,by rw[M];decide,_,_,rfl,rfl,?_,r _ p (AG.refl p) ⟨_,rfl,?_,?_⟩⟩
     ·exact Nat.le_of_lt (BV (by show(Txt.slice W none (some (u % 8))).length+1<=1000;lia))
     ·exact Nat.le_of_lt (BV (by lia))
     ·show Nv (sgn (Txt.slice W none (some (u % 8))++⟨#[x]⟩++Txt.slice W (some (u % 8+1)) none))=true
      have e1:(Ca:Int)+1=((Ca+1:Nat):Int):=by lia
      rw[Bz,Bz,Dv,Dv,Z,e1,MV,VA]
      have ec:sgn ⟨#[x]⟩=[x]:=rfl
      rw[ec]
      refine Nx ?_ ?_ ?_
      ·simp only[List.length_append,List.length_take,List.length_drop,I,List.length_singleton];lia
      ·simp only[List.length_append,List.length_take,List.length_drop,I,List.length_singleton];lia
      ·rw[List.all_append,List.all_append,Nw U,VB U]
       simp[hl]
     ·rw[Bz,Bz,Dv,Z,MV]
      have ec:sgn ⟨#[x]⟩=[x]:=rfl
      rw[ec]
      have lt:((sgn W).take Ca).length=Ca:=by rw[List.length_take,I];lia
      rw[List.getElem?_append_left (by rw[List.length_append,lt,List.length_singleton];lia),List.getElem?_append_right (by rw[lt];exact Nat.le_refl _),lt,Nat.sub_self]
      rw[<-B]at t
      have hb:=GR (b+(0+(i:Int)))
      obtain⟨m,hm⟩:∃m:Nat,(b+(0+(i:Int))) % 26=(m:Int):=⟨((b+(0+(i:Int))) % 26).toNat,by lia⟩
      have hz:(b+(i:Int)) % 26=(m:Int):=by rw[<-hm,Int.zero_add]
      rw[hz,Int.toNat_natCast]
      rw[hm]at t
      obtain⟨j',g1,g2,g3,_⟩:=Ib t
      have:j'=m:=by
       have zo:m<(sgn Z_).length:=by show m<U'.length;rw[MY];lia
       have q1:So (sgn Z_).length (m:Int)=some m:=by
        unfold So
        rw[if_pos (by lia),if_pos (by lia),Int.toNat_natCast]
       have:=(GG q1).1
       rw[this]at g1
       exact(ADt g1).symm
      rw[this]at g2
      exact g2.symm
    ·obtain⟨O,rfl⟩:=gen G fun j v d=>let⟨y,e,_⟩:=ov j v d;⟨y,e⟩
     have D:∀(j:Nat) y,O[j]?=some y->CB y=true/\(sgn y)[Ca]?=U'[((b+(j:Int)) % 26).toNat]?:=fun j y d=>by
      obtain⟨y',e,h1,h2⟩:=ov j (.str y) (by rw[List.getElem?_map,d];rfl)
      cases e
      exact⟨h1,h2⟩
     have l4:O.length=4:=by rw[<-lv,List.length_map]
     refine q D3 O p s3 L ⟨d3,l4,Nz (fun j y=>(sgn y)[Ca]?=U'[((b+(j:Int)) % 26).toNat]?) (fun j y d=>(D j y d).2) fun i j y zj d p1 p2=>?_,fun y hy=>?_⟩
     ·rw[p1]at p2
      have nl:U'.Nodup:=by decide+kernel
      have hb:=(GR (b+(i:Int)))
      have hb2:=(GR (b+(j:Int)))
      have h1:((b+(i:Int)) % 26).toNat<U'.length:=by rw[MY];lia
      have:=(List.getElem?_inj h1 nl).mp p2
      lia
     ·obtain⟨j,d,rfl⟩:=List.mem_iff_getElem.mp hy
      exact(D j _ (ADr d)).1
end
end By
namespace By
open PySem L2
section
variable{P:Program} {w:World} {K:ADv} [Ar K] {mg:Str->Option Value} {base:Heap}
theorem aS:Ah ["_law_cell_here","_law_k","_law_names_here","_law_number","_law_small","_law_some"] ["_law_cell_here","_law_k","_law_names_here"] (AI Tu):=⟨rfl,rfl,rfl,by decide+kernel,rfl,by decide+kernel,by decide+kernel⟩
theorem cj {f:Addr} {fd:FuncData} (F:Ct K "_law_doc" "_law_doc" Tu f fd) (T:Txt mg) (RB:Df P w K mg base "_law_mix" ["_law_cell_here","_law_k"] 1 Fo):BG P w K mg base CW 2 f fd ["_law_cell_here","_law_k","_law_names_here"] Hh:=by
 obtain⟨Yz,Y_,Y',ZA,ZC,ZD⟩:=RB.ex
 refine F.ok aS (fun vs H Q E h=>?_) (fun IV A outer s H vs Q E hr h=>?_)
 ·obtain⟨c,k,n,ys,rfl,hk,J,q⟩:=h
  rfl
 ·obtain⟨c,k,n,ys,rfl,hk,J,q⟩:=h
  have nd:=aS.nd
  have hu:=BU hr
  have S:Al 1 _:=hr.mono (by first|decide|omega)
  refine⟨_,(AF (AY (i:=3) nd rfl (Or.inl rfl) (AL ZD S rfl ZC Y' ZA .nil AX (AA (pv 0) (AA (pv 1) AB))))
   (AF (AY (i:=4) nd rfl (Or.inl rfl) (AS BI (AS B_ (pv 3) AD) AD))
   (AF (AY (i:=5) nd rfl (Or.inl rfl) (A_ (AA (AS G_ (pv 4) AD) (AA (DD MR Ag (DV (pv 4)) FJ) (AA (A_ AB) (AA JG (AA (AS Bq (AS Px AD AD) (pv 3)) (AA (A_ (AA (pv 4) AB)) (AA (A_ (AA (A_ AB) (AA Ag AB))) (AA (MP (GN (AO (r:=B' K) As (pv 2) (AS BI (pv 4) AD) (fun _ _=>rfl)) AD MO) rfl rfl (by simp) (by simp)) AB))))))))))
   (AF (AY (i:=5) nd rfl (Or.inl rfl) (AS JE (pv 5) (A_ (AA (MP (GN (AO (r:=B' K) As (pv 2) AD (fun _ _=>rfl)) (A_ AB) (GN (AO (r:=B' K) As (pv 2) AD (fun _ _=>rfl)) Ag MO)) rfl rfl (by simp) (by simp)) (AA (pv 4) (AA Ag (AA (A_ (AA (pv 4) (AA JG AB))) AB)))))))
   (AH (AN (AO (r:=B' K) As (pv 5) (AS BI (pv 3) AD) (fun _ _=>rfl)))))))),?_⟩
  have get:∀j:Nat,j<4->∃y,Na (ys.map V.str) (j:Int)=some (.str y)/\ys[j]?=some y/\CB y=true:=fun j hj=>⟨ys[j]'(by rw[J.len];exact hj),Aq (by rw[List.getElem?_map,ADr (by rw[J.len];exact hj)];rfl),ADr (by rw[J.len];exact hj),J.nb _ (List.getElem_mem _)⟩
  obtain⟨C,a0,g0,b0⟩:=get 0 (by decide)
  obtain⟨D,a1,g1,b1⟩:=get 1 (by decide)
  have n12:D≠C:=fun z=>by
   rw[z,<-g0]at g1
   have:=(List.getElem?_inj (by rw[J.len];decide) J.nd).mp g1
   lia
  refine⟨_,rfl,_,rfl,c,k,rfl,hk,fun r _ _=>?_⟩
  refine⟨_,rfl,_,_,rfl,rfl,⟨by decide,by decide⟩,_,_,rfl,rfl,(by show(0:Int)<_;decide),?_⟩
  have m5:=Dx (r/12) (n:=5) (by decide)
  obtain⟨e,he⟩:∃e:Nat,r/12 % 5=(e:Int):=⟨(r/12 % 5).toNat,by lia⟩
  have e5:e<5:=by lia
  rw[he]
  obtain⟨x,hx⟩:∃x,x=Txt.slice "abcde" (some (e:Int)) none:=⟨_,rfl⟩
  have lx:x.length<=100:=by
   have:=Txt.slice_le "abcde" (some (e:Int)) none
   rw[<-hx]at this
   exact Nat.le_trans this (by decide)
  obtain⟨R,az,gz,bz⟩:∃y,Na (ys.map V.str) ((e:Int) % 4)=some (.str y)/\True/\CB y=true:=by
   obtain⟨y,h1,_,h2⟩:=get (e % 4) (Nat.mod_lt _ (by decide))
   exact⟨y,by rw[<-h1];rfl,trivial,h2⟩
  refine⟨_,rfl,_,_,rfl,rfl,_,rfl,_,rfl,"abcde",rfl,by decide,?_⟩
  rw[<-hx]
  refine⟨Nat.zero_le _,fun g gu=>?_⟩
  have t1:=AG.new (o:=.lst []) gu
  have f1:upd H g (.lst []) g=some (.lst []):=AE
  generalize upd H g (.lst [])=H2 at t1 f1⊢
  refine fun l Ke=>?_
  have t2:=AG.new (o:=.dK []) Ke
  have f2:upd H2 l (.dK []) l=some (.dK []):=AE
  generalize upd H2 l (.dK [])=H3 at t2 f2⊢
  have t12:=t1.trans t2
  refine⟨_,_,rfl,rfl,⟨by decide,by decide,by decide⟩,_,rfl,_,_,rfl,rfl,?_⟩
  obtain⟨G,zp⟩:∃G:Int,G=(10:Int) ^ (30:Int).toNat+r:=⟨_,rfl⟩
  rw[<-zp]
  refine⟨_,rfl,Bf,fun m eC=>?_⟩
  have t3:=AG.new (o:=.lst [.int (e:Int)]) eC
  have f3:upd H3 m (.lst [.int (e:Int)]) m=some (.lst [.int (e:Int)]):=AE
  generalize upd H3 m (.lst [.int (e:Int)])=H4 at t3 f3⊢
  have t13:=t12.trans t3
  refine⟨Nat.zero_le _,fun U jg=>?_⟩
  have t4:=AG.new (o:=.lst []) jg
  have f4:upd H4 U (.lst []) U=some (.lst []):=AE
  generalize upd H4 U (.lst [])=H5 at t4 f4⊢
  have t14:=t13.trans t4
  refine⟨Ax,fun u UH=>?_⟩
  have t5:=AG.new (o:=.lst [.ref U,.str "b"]) UH
  have f5:upd H5 u (.lst [.ref U,.str "b"]) u=some (.lst [.ref U,.str "b"]):=AE
  generalize upd H5 u (.lst [.ref U,.str "b"])=H6 at t5 f5⊢
  have X:=t14.trans t5
  refine fun d Y=>?_
  have t6:=AG.new (o:=.dK []) Y
  refine⟨_,rfl,_,rfl,_,_,rfl,rfl,(by show(0:Int)<_;decide),n,_,_,_,rfl,rfl,Ap.of ((X.trans t6) _ _ J.at_),az,AE,[(Sum.inr R,.int 1)],rfl,by simp,?_⟩
  have m6:CG [] [((Sum.inr R:Key),V.int 1)]=[(Sum.inr R,.int 1)]:=rfl
  rw[m6]
  have Z:AG H6 (upd (upd H6 d (.dK [])) d (.dK [(Sum.inr R,.int 1)])):=t6.put Y
  have f6:upd (upd H6 d (.dK [])) d (.dK [(Sum.inr R,.int 1)]) d=some (.dK [(Sum.inr R,.int 1)]):=AE
  generalize upd (upd H6 d (.dK [])) d (.dK [(Sum.inr R,.int 1)])=H7 at Z f6⊢
  have t16:=X.trans Z
  refine⟨Ab (show 8<=1000 by decide),fun L hL=>?_⟩
  have tL:=AG.new (o:=.lst [.int ((e:Int)-2),.str x,.ref g,.ref l,.int G,.ref m,.ref u,.ref d]) hL
  have fL:upd H7 L (.lst [.int ((e:Int)-2),.str x,.ref g,.ref l,.int G,.ref m,.ref u,.ref d]) L=some (.lst [.int ((e:Int)-2),.str x,.ref g,.ref l,.int G,.ref m,.ref u,.ref d]):=AE
  generalize upd H7 L (.lst [.int ((e:Int)-2),.str x,.ref g,.ref l,.int G,.ref m,.ref u,.ref d])=H8 at tL fL⊢
  have I:=t16.trans tL
  refine⟨_,rfl,fun a nA=>?_⟩
  have t9:=AG.new (o:=.dK []) nA
  have f9:upd H8 a (.dK []) a=some (.dK []):=AE
  generalize upd H8 a (.dK [])=HA at t9 f9⊢
  refine⟨_,rfl,n,_,_,_,rfl,rfl,Ap.of ((I.trans t9) _ _ J.at_),a1,Nat.zero_le _,fun b nB=>?_⟩
  have tA:=AG.new (o:=.lst []) nB
  have fA:upd HA b (.lst []) b=some (.lst []):=AE
  refine⟨_,rfl,n,_,_,_,rfl,rfl,Ap.of (((I.trans t9).trans tA) _ _ J.at_),a0,tA _ _ f9,[(Sum.inr D,.ref b),(Sum.inr C,.str "a")],rfl,by simp,?_⟩
  have m9:CG [] [((Sum.inr D:Key),V.ref b),(Sum.inr C,.str "a")]=[(Sum.inr D,.ref b),(Sum.inr C,.str "a")]:=ET _ _ (by
   have:(Sum.inr D:Key)≠Sum.inr C:=fun z=>n12 (Sum.inr.inj z)
   simpa using this)
  rw[m9]
  have zr:b≠a:=Ne.symm (Ac f9 nB)
  have O:AG H8 (upd (upd HA b (.lst [])) a (.dK [(Sum.inr D,.ref b),(Sum.inr C,.str "a")])):=(t9.trans tA).put nA
  have wO:upd (upd HA b (.lst [])) a (.dK [(Sum.inr D,.ref b),(Sum.inr C,.str "a")]) a=some (.dK [(Sum.inr D,.ref b),(Sum.inr C,.str "a")]):=AE
  have wQ:upd (upd HA b (.lst [])) a (.dK [(Sum.inr D,.ref b),(Sum.inr C,.str "a")]) b=some (.lst []):=by rw[AK zr];exact fA
  have zu:H b=none:=I.free (t9.free nB)
  generalize upd (upd HA b (.lst [])) a (.dK [(Sum.inr D,.ref b),(Sum.inr C,.str "a")])=HB at O wO wQ⊢
  have t19:=I.trans O
  refine⟨_,rfl,_,rfl,fun pB wR=>?_⟩
  have tB:=AG.new (o:=.dK []) wR
  have fB:upd HB pB (.dK []) pB=some (.dK []):=AE
  generalize upd HB pB (.dK [])=HC at tB fB⊢
  have wU:=t19.trans tB
  refine⟨Ax,fun B wV=>?_⟩
  have tC:=AG.new (o:=.lst [.int (e:Int),.ref pB]) wV
  have fC:upd HC B (.lst [.int (e:Int),.ref pB]) B=some (.lst [.int (e:Int),.ref pB]):=AE
  generalize upd HC B (.lst [.int (e:Int),.ref pB])=HD at tC fC⊢
  have zv:=wU.trans tC
  refine⟨Ab (show 4<=1000 by decide),fun M hM=>?_⟩
  have tM:=AG.new (o:=.lst [.ref a,.int (e:Int),.str "",.ref B]) hM
  have fM:upd HD M (.lst [.ref a,.int (e:Int),.str "",.ref B]) M=some (.lst [.ref a,.int (e:Int),.str "",.ref B]):=AE
  generalize upd HD M (.lst [.ref a,.int (e:Int),.str "",.ref B])=HE at tM fM⊢
  have zw:=zv.trans tM
  refine⟨L,M,_,_,rfl,rfl,(((O.trans tB).trans tC).trans tM) _ _ fL,fM,Ab (show 12<=1000 by decide),fun N hN=>?_⟩
  have tN:=AG.new (o:=.lst ([.int ((e:Int)-2),.str x,.ref g,.ref l,.int G,.ref m,.ref u,.ref d]++[.ref a,.int (e:Int),.str "",.ref B])) hN
  have fN:upd HE N (.lst ([.int ((e:Int)-2),.str x,.ref g,.ref l,.int G,.ref m,.ref u,.ref d]++[.ref a,.int (e:Int),.str "",.ref B])) N=some (.lst ([.int ((e:Int)-2),.str x,.ref g,.ref l,.int G,.ref m,.ref u,.ref d]++[.ref a,.int (e:Int),.str "",.ref B])):=AE
  generalize upd HE N (.lst ([.int ((e:Int)-2),.str x,.ref g,.ref l,.int G,.ref m,.ref u,.ref d]++[.ref a,.int (e:Int),.str "",.ref B]))=HF at tN fN⊢
  have mb:=Dx r (n:=12) (by decide)
  obtain⟨v,hv,mv⟩:=GQ (xs:=([V.int ((e:Int)-2),.str x,.ref g,.ref l,.int G,.ref m,.ref u,.ref d]++[V.ref a,.int (e:Int),.str "",.ref B]:List V)) mb.1 (by exact mb.2)
  refine⟨_,rfl,_,rfl,_,_,rfl,rfl,(by show(0:Int)<_;decide),N,_,_,_,rfl,rfl,Ap.of fN,hv,?_⟩
  have z:=zw.trans tN
  have sC:=tM.trans tN
  have sB:=tC.trans sC
  have s9:=tB.trans sB
  have sL:=O.trans s9
  have s6:=tL.trans sL
  have s5:=Z.trans s6
  have s4:=t5.trans s5
  have s3:=t4.trans s4
  have s2:=t3.trans s3
  have s1:=t2.trans s2
  have new:∀{p:Addr} {o:HO},H p=none->HF p=some o->nw H HF p=some o:=fun h1 h2=>by rw[Av h1];exact h2
  have v1:=new gu (s1 _ _ f1)
  have v2:=new (t1.free Ke) (s2 _ _ f2)
  have v3:=new (t12.free eC) (s3 _ _ f3)
  have v4:=new (t13.free jg) (s4 _ _ f4)
  have v5:=new (t14.free UH) (s5 _ _ f5)
  have v6:=new (X.free Y) (s6 _ _ f6)
  have v9:=new (I.free nA) (s9 _ _ wO)
  have vA:=new zu (s9 _ _ wQ)
  have vB:=new (t19.free wR) (sB _ _ fB)
  have vC:=new (wU.free wV) (sC _ _ fC)
  have k:∀t:Pt,Small H HF v t->Q v HF:=fun t h=>q v t HF z h
  simp only[List.cons_append,List.nil_append,List.mem_cons,List.not_mem_nil,or_false]at mv
  have one:∀{P:Pt->Prop} {x:Pt},P x->∀y∈[x],P y:=fun h y hy=>by rw[List.mem_singleton.mp hy];exact h
  have two:∀{P:Pt->Prop} {x y:Pt},P x->P y->∀z∈[x,y],P z:=fun h1 h2 z hz=>by
   rcases List.mem_cons.mp hz with rfl|hz
   ·exact h1
   ·rw[List.mem_singleton.mp hz];exact h2
  rcases mv with rfl|rfl|rfl|rfl|rfl|rfl|rfl|rfl|rfl|rfl|rfl|rfl
  ·exact k _ ⟨.int _,.one (.int _),trivial,by simp[Pt.size],by simp[Pt.deep]⟩
  ·exact k _ ⟨.str _,.one (.str _),lx,by simp[Pt.size],by simp[Pt.deep]⟩
  ·exact k _ ⟨.lst (.inl v1) .nil,.one .nil,trivial,by simp[Pt.size,Pt.AJ],by simp[Pt.deep,Pt.AV]⟩
  ·exact k _ ⟨.BF (ks:=[]) (.inl v2) rfl .nil,.one .emp,by simp[Pt.doc,Pt.CH],by simp[Pt.size,Pt.AJ],by simp[Pt.deep,Pt.AV]⟩
  ·exact k _ ⟨.int _,.one (.int _),trivial,by simp[Pt.size],by simp[Pt.deep]⟩
  ·exact k _ ⟨.lst (.inl v3) (.cons (.int _) .nil),.row (one (.int _)),by simp[Pt.doc,Pt.CH],by simp[Pt.size,Pt.AJ],by simp[Pt.deep,Pt.AV]⟩
  ·exact k _ ⟨.lst (.inl v5) (.cons (.lst (.inl v4) .nil) (.cons (.str _) .nil)),.row (two .nil (.str _)),by simp only[Pt.doc,Pt.CH,and_true,true_and];decide,by simp[Pt.size,Pt.AJ],by simp[Pt.deep,Pt.AV]⟩
  ·exact k _ ⟨.BF (ks:=[R]) (.inl v6) rfl (.cons (.int _) .nil),.tab (one (.int _)),by simp[Pt.doc,Pt.CH,bz],by simp[Pt.size,Pt.AJ],by simp[Pt.deep,Pt.AV]⟩
  ·exact k _ ⟨.BF (ks:=[D,C]) (.inl v9) rfl (.cons (.lst (.inl vA) .nil) (.cons (.str _) .nil)),.tab (two .nil (.str _)),by
    simp only[Pt.doc,Pt.CH,and_true,true_and]
    refine⟨rfl,by simpa using n12,?_,by simp,by decide⟩
    intro k hk
    simp only[List.mem_cons,List.not_mem_nil,or_false]at hk
    rcases hk with rfl|rfl
    ·exact b1
    ·exact b0,by simp[Pt.size,Pt.AJ],by simp[Pt.deep,Pt.AV]⟩
  ·exact k _ ⟨.int _,.one (.int _),trivial,by simp[Pt.size],by simp[Pt.deep]⟩
  ·exact k _ ⟨.str _,.one (.str _),by simp only[Pt.doc];decide,by simp[Pt.size],by simp[Pt.deep]⟩
  ·exact k _ ⟨.lst (.inl vC) (.cons (.int _) (.cons (.BF (ks:=[]) (.inl vB) rfl .nil) .nil)),.row (two (.int _) .emp),by simp[Pt.doc,Pt.CH],by simp[Pt.size,Pt.AJ],by simp[Pt.deep,Pt.AV]⟩
end
end By
namespace By
open PySem L2
section
variable{P:Program} {w:World} {K:ADv} [Ar K] {mg:Str->Option Value} {base:Heap}
theorem Wy:Ah ["_law_thing"] ["_law_thing"] (AI KP):=⟨rfl,rfl,rfl,by decide+kernel,rfl,by decide+kernel,by decide+kernel⟩
theorem ZE {n:Nat} {f:Addr} {fd:FuncData} (F:Ct K "_law_copy" "_law_copy" KP f fd) (T:Txt mg) (PV:Df P w K mg base "_law_copy" ["_law_thing"] n (Dd n)):BG P w K mg base CW (n+1) f fd ["_law_thing"] (Dd (n+1)):=by
 obtain⟨aT,aU,B,G,I,J⟩:=PV.ex
 refine F.ok Wy (fun vs H Q E h=>?_) (fun IV A outer s H vs Q E hr h=>?_)
 ·obtain⟨v,t,rfl,hv,S,U,q⟩:=h
  rfl
 ·obtain⟨v,t,rfl,hv,S,U,q⟩:=h
  have nd:=Wy.nd
  have V:=BU hr
  have m:Al n _:=hr.mono (by first|decide|omega)
  refine⟨_,(AF (Ai (BA (AM (BB:BD _ _ (CO K)) rfl T.isinstance AW (AA (pv 0) (AA (Az (v:=.ty "list") rfl T.list Bv rfl) AB)))) (AH (AN (Bb (fv:=[]) (fs:=[]) rfl (.of (by rfl)) (Bk (pv 0)) (fun _ _ _ _=>Bi) (fun C s0 H0 fp=>(AL J m rfl I B G .nil AX (AA (pv 0) AB)))))) AQ)
   (AF (Ai (BA (AM (BB:BD _ _ (CO K)) rfl T.isinstance AW (AA (pv 0) (AA (Az (v:=.ty "tuple") rfl T.tuple Ig rfl) AB)))) (AH (AN (Bd Kk rfl T.tuple Ig (AA (Bb (fv:=[]) (fs:=[]) rfl (.of (by rfl)) (MD (pv 0)) (fun _ _ _ _=>Bi) (fun C s0 H0 fp=>(AL J m rfl I B G .nil AX (AA (pv 0) AB)))) AB)))) AQ)
   (AF (Ai (BA (AM (BB:BD _ _ (CO K)) rfl T.isinstance AW (AA (pv 0) (AA (Az (v:=.ty "dict") rfl T.dict Co rfl) AB)))) (AH (AN (Bd (Ej rfl) rfl T.dict Co (AA (Rg (Bb (fv:=["_law_thing"]) (fs:=[0]) rfl (.of (by rfl)) (Ih (pv 0)) (fun _ _ _ _=>Bi) (fun C s0 H0 fp=>(BL (AA (pv 0) (AA (AL J m rfl I B G .nil AX (AA (Bx V (pv 1) (pv 0) (fun _ _=>rfl)) AB)) AB)))))) AB)))) AQ)
   (AH (AN (pv 0)))))),?_⟩
  cases hv with
  |int i=>exact⟨_,rfl,_,"list","int",rfl,rfl,.n (.int i),_,rfl,BJ ⟨_,rfl,_,"tuple","int",rfl,rfl,.n (.int i),_,rfl,BJ ⟨_,rfl,_,"dict","int",rfl,rfl,.n (.int i),_,rfl,BJ ⟨_,rfl,q _ H (AG.refl H) (.int i)⟩⟩⟩⟩
  |str i=>exact⟨_,rfl,_,"list","str",rfl,rfl,.n (.str i),_,rfl,BJ ⟨_,rfl,_,"tuple","str",rfl,rfl,.n (.str i),_,rfl,BJ ⟨_,rfl,_,"dict","str",rfl,rfl,.n (.str i),_,rfl,BJ ⟨_,rfl,q _ H (AG.refl H) (.str i)⟩⟩⟩⟩
  |bl i=>exact⟨_,rfl,_,"list","bool",rfl,rfl,.n (.bl i),_,rfl,BJ ⟨_,rfl,_,"tuple","bool",rfl,rfl,.n (.bl i),_,rfl,BJ ⟨_,rfl,_,"dict","bool",rfl,rfl,.n (.bl i),_,rfl,BJ ⟨_,rfl,q _ H (AG.refl H) (.bl i)⟩⟩⟩⟩
  |@lst a vs L h r=>
   refine⟨_,rfl,_,"list","list",rfl,rfl,.n (.lst h),_,rfl,Bs ?_⟩
   simp only[Pt.nice]at S
   simp only[Pt.deep]at U
   have lv:=r.length
   refine⟨_,rfl,a,rfl,⟨_,.inl h⟩,?_⟩
   refine DN none L.length (fun i=>vs.getD i .BO) (fun i g d=>g=L.take i) (by lia) (fun D M=>rfl) (fun i g d D N s M c=>c) (fun l z=>nomatch z) (fun i g d O s c=>⟨_,_,.inl (h.up (s.same _)),ADr (by lia)⟩) (fun i g d v H' O s c y=>?_) (fun g d s c=>⟨_,.inl (h.up (s.same _)),by lia⟩) (fun i g d R O s c lu k=>?_) (fun D d N g M s d2 lu vl c=>?_)
   ·obtain⟨e,y⟩:=y
    refine⟨?_,e⟩
    have:=y _ (.inl (h.up (s.same _)))
    rw[List.getD_eq_getElem?_getD,this]
    rfl
   ·obtain⟨u,V⟩:∃u,L[i]?=some u:=⟨_,ADr O⟩
    obtain⟨x,hx,vx⟩:=r.get' V
    have Y:=ADu V
    have dx:=Pt.BC Y
    have ev:vs.getD i .BO=x:=by rw[List.getD_eq_getElem?_getD,hx];rfl
    rw[ev]
    refine⟨_,rfl,x,u,rfl,vx.up s.same,Pt.FR S.2 u Y,by lia,fun w H3 s3 v3=>k w u H3 (.of s3) v3 ?_⟩
    rw[c,List.take_add_one,V]
    rfl
   ·rw[List.take_length]at c
    subst c
    exact q _ d s.same (.lst (.inl (by rw[Av M];exact d2)) vl)
  |@tup a vs L h r=>
   refine⟨_,rfl,_,"list","tuple",rfl,rfl,.t h,_,rfl,BJ ⟨_,rfl,_,"tuple","tuple",rfl,rfl,.t h,_,rfl,Bs ?_⟩⟩
   simp only[Pt.nice]at S
   simp only[Pt.deep]at U
   have lv:=r.length
   refine⟨_,rfl,a,rfl,⟨_,h⟩,?_⟩
   refine DN none L.length (fun i=>vs.getD i .BO) (fun i g d=>g=L.take i) (by lia) (fun D M=>rfl) (fun i g d D N s M c=>c) (fun l z=>nomatch z) (fun i g d O s c=>⟨_,_,h.up s.same,ADr (by lia)⟩) (fun i g d v H' O s c y=>?_) (fun g d s c=>⟨_,h.up s.same,by lia⟩) (fun i g d R O s c lu k=>?_) (fun D d N g M s d2 lu vl c=>?_)
   ·obtain⟨e,y⟩:=y
    refine⟨?_,e⟩
    have:=y _ (h.up s.same)
    rw[List.getD_eq_getElem?_getD,this]
    rfl
   ·obtain⟨u,V⟩:∃u,L[i]?=some u:=⟨_,ADr O⟩
    obtain⟨x,hx,vx⟩:=r.get' V
    have Y:=ADu V
    have dx:=Pt.BC Y
    have ev:vs.getD i .BO=x:=by rw[List.getD_eq_getElem?_getD,hx];rfl
    rw[ev]
    refine⟨_,rfl,x,u,rfl,vx.up s.same,Pt.FR S.2 u Y,by lia,fun w H3 s3 v3=>k w u H3 (.of s3) v3 ?_⟩
    rw[c,List.take_add_one,V]
    rfl
   ·rw[List.take_length]at c
    subst c
    refine⟨D,N,rfl,.inl ⟨Ap.of d2,fun p Z=>?_⟩⟩
    have XY:=s.same.free Z
    exact q _ _ (s.same.trans (AG.new Z)) (.tup (BY.of (by rw[Av XY,AE])) (vl.up (BX (fun b h=>h) fun b e h1 X=>by rw[AK (fun z=>by rw[z,Z]at X;cases X)];exact X)))
  |@BF a kvs ks L h hk r=>
   refine⟨_,rfl,_,"list","dict",rfl,rfl,.n (.dK h),_,rfl,BJ ⟨_,rfl,_,"tuple","dict",rfl,rfl,.n (.dK h),_,rfl,BJ ⟨_,rfl,_,"dict","dict",rfl,rfl,.n (.dK h),_,rfl,Bs ?_⟩⟩⟩
   simp only[Pt.nice]at S
   simp only[Pt.deep]at U
   obtain⟨nl,je,n9,S⟩:=S
   have kl:kvs.length=ks.length:=by have:=congrArg List.length hk;simpa using this
   refine⟨a,_,h,fun o Hf F=>⟨_,rfl,a,o,_,rfl,F.at_,?_⟩⟩
   refine LU none L.length (fun i=>.str (ks.getD i "")) ks (fun i g d=>g=L.take i) (by lia) (fun D M=>rfl) (fun i g d D N s M c=>c) (fun l z=>nomatch z) (fun i g d O s c=>⟨s.same _ _ F.at_,by lia⟩) (fun i g d v H' O s c y=>?_) (fun g d s c=>⟨s.same _ _ F.at_,by lia⟩) (fun i g d R O s c lu k=>?_) (fun D d qs N g M s d2 lq lu tt vl c=>?_)
   ·obtain⟨e,k,w',e1,e2⟩:=y
    rw[(QX hk e1).2]at e2
    exact⟨e2,e⟩
   ·obtain⟨x,u,g1,g2,g3⟩:=QY hk r je (i:=i) (by lia)
    have Y:=ADu g2
    have dx:=Pt.BC Y
    have zy:Ez H d:=F.rd.trans s.same.r
    refine⟨_,rfl,_,rfl,_,rfl,a,x,rfl,.inl ⟨kvs,Sum.inr (ks.getD i ""),zy a _ h,rfl,g1.symm⟩,x,u,rfl,g3.OP ((OO.CK F).trans (.of s.same)),Pt.FR S u Y,by lia,fun w H3 s3 v3=>⟨Ax,fun t ht=>k w u H3 t (.of s3) v3 ?_ ht⟩⟩
    rw[c,List.take_add_one,g2]
    rfl
   ·refine⟨s.same _ _ F.at_,?_⟩
    rw[List.take_length]at c
    subst c
    have sb:=F.back s.same
    have ba:∀b,b≠a->back a H d b=d b:=fun b hb=>FO hb
    have Da:D≠a:=(F.free M).2
    have lw:=vl.length
    have el:ks.length=N.length:=by lia
    refine⟨D,qs,EH ks N,rfl,Ap.of (by rw[ba D Da];exact d2),by rw[FT el];lia,fun j k v e=>?_,by rw[FT el];lia,fun p Z=>?_⟩
    ·obtain⟨x,h1,X,h3⟩:=Rj e
     obtain⟨t,ht⟩:∃t,qs[j]?=some t:=⟨_,ADr (by have:=(ADs h1).1;lia)⟩
     obtain⟨g2,g3⟩:=tt j t v ht X
     refine⟨t,ht,?_⟩
     rw[ba t (F.free g3).2,g2,h3,List.getD_eq_getElem?_getD,h1]
     rfl
    ·rw[Hg el je]
     have zz:H p=none:=sb.free Z
     have Yp:Aa (nw H (upd (back a H d) p (.dK (EH ks N)))) N g:=vl.up (BX (fun b h=>(F.free h).1) fun b e h1 X=>by
      have hb:=(F.free h1).2
      have nb:b≠p:=fun z=>by rw[z]at X hb;rw[ba p hb,X]at Z;cases Z
      rw[AK nb,ba b hb]
      exact X)
     exact q _ _ (sb.trans (AG.new Z)) (.BF (.inl (by rw[Av zz,AE])) (CT el) (by rw[EB el];exact Yp))
theorem Kb {f:Addr} {a:FuncData} (F:Ct K "_law_copy" "_law_copy" KP f a) (T:Txt mg) (b:Binds K a ["_law_thing"] []) (m:mg "_law_copy"=some (.ref f)):∀n:Nat,BG P w K mg base CW n f a ["_law_thing"] (Dd n)
 |0=>JQ (fun vs H Q E h=>by obtain⟨v,t,_,_,_,c,_⟩:=h;have:=Pt.D' t;omega)
 |n+1=>ZE F T (Df.mk' F b m (Kb F T b m n))
end
end By
namespace By
open PySem L2
section
variable{P:Program} {w:World} {K:ADv} [Ar K] {mg:Str->Option Value} {base:Heap}
theorem Wz:Ah ["_law_thing","_law_name","_law_one"] ["_law_thing"] (AI KQ):=⟨rfl,rfl,rfl,by decide+kernel,rfl,by decide+kernel,by decide+kernel⟩
theorem ZF {n:Nat} {f:Addr} {fd:FuncData} (F:Ct K "_law_ruin" "_law_ruin" KQ f fd) (T:Txt mg) (W_:Df P w K mg base "_law_ruin" ["_law_thing"] n (Gs n)):BG P w K mg base CW (n+1) f fd ["_law_thing"] (Gs (n+1)):=by
 obtain⟨gx,gy,B,C,D,I⟩:=W_.ex
 refine F.ok Wz (fun N H Q E h=>?_) (fun IV A outer s H N Q E hr h=>?_)
 ·obtain⟨G,v,t,c,rfl,kf,O,hE,X,hz,hw,q⟩:=h
  rfl
 ·obtain⟨G,v,t,c,rfl,kf,O,hE,X,hz,hw,q⟩:=h
  have nd:=Wz.nd
  have m:=BU hr
  have l:Al n _:=hr.mono (by first|decide|omega)
  refine⟨_,(AF (Ai (BA (AM (BB:BD _ _ (CO K)) rfl T.isinstance AW (AA (pv 0) (AA (Az (v:=.ty "dict") rfl T.dict Co rfl) AB)))) (AF (Rh (CD PassesOwn.never rfl (Ih (pv 0)) (Bh (i:=1) nd rfl (Or.inl rfl)) (AH (Cs (AL I l rfl D B C .nil AX (AA (Bx m (pv 0) (pv 1) (fun _ _=>rfl)) AB))))))
   (AH (Ie m (pv 0) Ag AD rfl))) AQ)
   (AF (Ai (BA (AM (QW:BD _ _ (QV K)) rfl T.isinstance AW (AA (pv 0) (AA (BL (AA (Az (v:=.ty "list") rfl T.list Bv rfl) (AA (Az (v:=.ty "tuple") rfl T.tuple Ig rfl) AB))) AB)))) (AH (VT (CD PassesOwn.never rfl (Bk (pv 0)) (Bh (i:=2) nd rfl (Or.inl rfl)) (AH (Cs (AL I l rfl D B C .nil AX (AA (pv 2) AB))))) (CD PassesOwn.never rfl (MD (pv 0)) (Bh (i:=2) nd rfl (Or.inl rfl)) (AH (Cs (AL I l rfl D B C .nil AX (AA (pv 2) AB))))))) AQ)
   (AH (Ai (BA (AM (BB:BD _ _ (CO K)) rfl T.isinstance AW (AA (pv 0) (AA (Az (v:=.ty "list") rfl T.list Bv rfl) AB)))) (AH (Cs (JD PySem.F.plainAttrs_list PySem.F.slot_list_append PySem.F.type_list_append FK (pv 0) (AA AD AB)))) AQ)))),?_⟩
  rcases O.kinds with⟨T,ty,k1,k2,k3,k4⟩|⟨a,N,d,rfl,rfl,Y,ra⟩|⟨a,N,d,rfl,rfl,Y,ra⟩|⟨a,kvs,ks,d,rfl,rfl,Y,hk,ra⟩
  ·refine⟨_,rfl,_,"dict",T,rfl,rfl,ty _,_,rfl,Aj k1 ?_⟩
   refine⟨_,rfl,Ax,fun p hp=>⟨_,p,T,rfl,AE,ty _,_,rfl,Aj k2 ?_⟩⟩
   refine⟨_,rfl,_,"list",T,rfl,rfl,ty _,_,rfl,Aj k3 ?_⟩
   have y:=AG.new (o:=.tup [V.ty "list",V.ty "tuple"]) hp
   exact q _ ((hw.up y).mono (Nat.le_refl _) (by lia)) (.of y)
  ·simp only[Pt.Oo]at hE
   simp only[Pt.Ek]at X
   simp only[Pt.size]at hz
   simp only[Pt.IZ]at q
   have la:=ra.length
   have lt:d.length<=Pt.AJ d:=Pt.CV d
   have hh:(Pt.lst d).Ek=1+Pt.FF d:=by simp only[Pt.Ek]
   obtain⟨u',ea,wo⟩:=hw a (.lst N) _ trivial Y O (Nat.le_refl _)
   cases wo with
   |lst _ k hk=>
    obtain⟨us,ru,wt⟩:=Wt.lst ra k
    have lu:=ru.length
    refine⟨_,rfl,_,"dict","list",rfl,rfl,.n (.lst (.inl ea)),_,rfl,Aj rfl ?_⟩
    refine⟨_,rfl,Ax,fun p hp=>?_⟩
    have y:=AG.new (o:=.tup [V.ty "list",V.ty "tuple"]) hp
    have e1:=y _ _ ea
    have w1:=hw.up y
    refine⟨_,p,"list",rfl,AE,.n (.lst (.inl e1)),_,rfl,BK rfl ?_⟩
    generalize upd H p (.tup [V.ty "list",V.ty "tuple"])=H1 at y e1 w1⊢
    refine .inl ⟨_,rfl,a,rfl,⟨_,Ap.of e1⟩,Ci (K:=K) (xs:=N++List.replicate k (.int 77)) (fun i M g=>∃(R S:Option V),M=[some (.ref a),R,S]/\Wn G (Pt.lst d).Ek (c+Pt.BN (us.take i)) g/\Gx G (Pt.FF d) H1 g)
     ⟨none,none,rfl,w1,.refl⟩ (fun i M g _ ⟨_,_,_,_,f⟩=>Ap.of (f.at_ kf O (by lia) e1)) ?_ ?_⟩
    ·rintro i x M g hx ⟨R,S,rfl,J,L⟩
     obtain⟨u,m,vu⟩:=ru.get hx
     have z1:=wt.size m
     have z2:=wt.Ek m
     refine⟨_,rfl,G,x,u,c+Pt.BN (us.take i),rfl,kf,vu,wt.Oo hE m,by lia,by lia,J.mono (by lia) (Nat.le_refl _),fun H2 w2 U=>?_⟩
     refine⟨_,_,rfl,?_,L.trans (U.mono z2)⟩
     rw[Pt.F' m,<-Nat.add_assoc]
     exact J.next kf w2 U (by lia)
    ·rintro M g ⟨R,S,rfl,J,L⟩
     have z3:=wt.take (N++List.replicate k (V.int 77)).length
     have z4:=Pt.DP d (N++List.replicate k (V.int 77)).length
     have ei:=L.at_ kf O (by lia) e1
     refine⟨_,rfl,_,"list","list",rfl,rfl,.n (.lst (.inl ei)),_,rfl,BK rfl ?_⟩
     refine⟨_,rfl,.inl ⟨rfl,_,Ap.of ei⟩,a,_,_,rfl,rfl,ei,WV (by rw[List.length_append,List.length_replicate];lia),?_⟩
     rw[List.append_assoc,show List.replicate k (V.int 77)++[V.int 77]=List.replicate (k+1) (V.int 77)from(List.replicate_succ' ..).symm]
     exact q _ ((J.mono (Nat.le_refl _) (by lia)).change (u:=.lst N) trivial Y (.lst N (k+1) (by lia))) (((Gx.of y).trans (L.mono (by lia))).change (u:=.lst N) trivial Y O (Nat.le_refl _))
  ·simp only[Pt.Oo]at hE
   simp only[Pt.Ek]at X
   simp only[Pt.size]at hz
   simp only[Pt.IZ]at q
   have la:=ra.length
   have lt:d.length<=Pt.AJ d:=Pt.CV d
   have hh:(Pt.tup d).Ek=1+Pt.FF d:=by simp only[Pt.Ek]
   have tq:∀{g:Hp},Wn G (Pt.tup d).Ek (c+Pt.BN d) g->BY K g a N:=fun w=>Y.imp (fun r=>by
    obtain⟨u',e,wo⟩:=w a (.tup N) _ trivial r O (Nat.le_refl _)
    cases wo
    exact .inl e) id
   have w0:=hw.mono (Nat.le_refl _) (show c<=c+Pt.BN d by lia)
   refine⟨_,rfl,_,"dict","tuple",rfl,rfl,.t (tq w0),_,rfl,Aj rfl ?_⟩
   refine⟨_,rfl,Ax,fun p hp=>?_⟩
   have y:=AG.new (o:=.tup [V.ty "list",V.ty "tuple"]) hp
   have w1:=hw.up y
   refine⟨_,p,"tuple",rfl,AE,.t (tq (w0.up y)),_,rfl,BK rfl ?_⟩
   generalize upd H p (.tup [V.ty "list",V.ty "tuple"])=H1 at y w1⊢
   have mo:∀{g:Hp} {i:Nat},Wn G (Pt.tup d).Ek (c+Pt.BN (d.take i)) g->Wn G (Pt.tup d).Ek (c+Pt.BN d) g:=fun{g i} w=>w.mono (Nat.le_refl _) (by have:=Pt.DP d i;lia)
   refine .inr ⟨_,rfl,a,rfl,⟨_,tq (w1.mono (Nat.le_refl _) (by lia))⟩,ME (K:=K) (xs:=N) (fun i M g=>∃(R S:Option V),M=[some (.ref a),R,S]/\Wn G (Pt.tup d).Ek (c+Pt.BN (d.take i)) g/\Gx G (Pt.FF d) H1 g)
    ⟨none,none,rfl,w1,.refl⟩ (fun i M g _ ⟨_,_,_,w,f⟩=>tq (mo w)) ?_ ?_⟩
   ·rintro i x M g hx ⟨R,S,rfl,J,L⟩
    obtain⟨u,m,vu⟩:=ra.get hx
    have wt:Wt d d:=fun _ _ h=>.inl h
    have z1:=wt.size m
    have z2:=wt.Ek m
    refine⟨_,rfl,G,x,u,c+Pt.BN (d.take i),rfl,kf,vu,wt.Oo hE m,by lia,by lia,J.mono (by lia) (Nat.le_refl _),fun H2 w2 U=>?_⟩
    refine⟨_,_,rfl,?_,L.trans (U.mono z2)⟩
    rw[Pt.F' m,<-Nat.add_assoc]
    exact J.next kf w2 U (by lia)
   ·rintro M g ⟨R,S,rfl,J,L⟩
    exact⟨_,rfl,_,"list","tuple",rfl,rfl,.t (tq (mo J)),_,rfl,Aj rfl (q _ (mo J) ((Gx.of y).trans (L.mono (by lia))))⟩
  ·simp only[Pt.Oo]at hE
   simp only[Pt.Ek]at X
   simp only[Pt.size]at hz
   simp only[Pt.IZ]at q
   have la:=ra.length
   have lt:d.length<=Pt.AJ d:=Pt.CV d
   rw[List.length_map]at la
   have hh:(Pt.BF ks d).Ek=1+Pt.FF d:=by simp only[Pt.Ek]
   obtain⟨u',ea,wo⟩:=hw a (.dK kvs) _ trivial Y O (Nat.le_refl _)
   cases wo with
   |BF _ j wd=>
    have nd:(kvs.map (·.1)).Nodup:=by
     rw[hk]
     exact List.Pairwise.map _ (fun a b h e=>h (Sum.inr.inj e)) hE.1
    obtain⟨us,ru,wt⟩:=Wt.BF ra wd
    have lu:=ru.length
    have wl:=wd.len
    refine⟨_,rfl,_,"dict","dict",rfl,rfl,.n (.dK (.inl ea)),_,rfl,BK rfl ?_⟩
    refine⟨a,_,.inl ea,fun o Hf F=>⟨_,rfl,a,o,_,rfl,F.at_,?_⟩⟩
    have wf:Wn G (Pt.FF d) c Hf:=fun b u t p r v z=>by
     have Z:b≠a:=fun e=>by
      subst e
      have:=Val.cO kf _ O v
      subst this
      lia
     rw[F.ne b Z]
     exact hw b u t p r v (by lia)
    refine VU (fun i M g=>∃(R S:Option V),M=[some (.ref a),R,S]/\Wn G (Pt.FF d) (c+Pt.BN (us.take i)) g/\Gx G (Pt.FF d) Hf g)
     ⟨none,none,rfl,wf,.refl⟩ (fun i M g _ ⟨_,_,_,_,f⟩=>f.at_ kf O (by lia) F.at_) ?_ ?_
    ·rintro i key x M g hx ⟨R,S,rfl,J,L⟩
     obtain⟨u,m,vu⟩:=ru.get (show(j.map (·.2))[i]?=some x by rw[List.getElem?_map,hx];rfl)
     have z1:=wt.size m
     have z2:=wt.Ek m
     have rd:Rd g a (.dK j):=.inr ⟨o,L.at_ kf O (by lia) F.at_⟩
     refine⟨_,rfl,_,rfl,a,x,rfl,.inl ⟨_,key,rd,rfl,(Ox (wd.nd nd) hx).symm⟩,G,x,u,c+Pt.BN (us.take i),rfl,kf,vu,wt.Oo hE.2 m,by lia,by lia,J.mono (by lia) (Nat.le_refl _),fun H2 w2 U=>?_⟩
     refine⟨_,_,rfl,?_,L.trans (U.mono z2)⟩
     rw[Pt.F' m,<-Nat.add_assoc]
     exact J.next kf w2 U (by lia)
    ·rintro M g ⟨R,S,rfl,J,L⟩
     have z3:=wt.take j.length
     have z4:=Pt.DP d j.length
     refine⟨L.at_ kf O (by lia) F.at_,?_⟩
     have eb:back a H g a=some (.dK j):=by rw[Ij];exact ea
     have wb:Wn G (Pt.BF ks d).Ek (c+Pt.BN d) (back a H g):=fun b u t p r v z=>by
      by_cases Z:b=a
      ·subst Z
       obtain⟨u',e,w⟩:=hw b u t p r v z
       exact⟨u',by rw[Ij];exact e,w.mono (by lia)⟩
      ·rw[FO Z]
       rcases Nat.lt_or_ge (Pt.FF d) t.Ek with z'|z'
       ·obtain⟨u',e,w⟩:=hw b u t p r v z
        exact⟨u',L.at_ kf v z' (by rw[F.ne b Z];exact e),w.mono (by lia)⟩
       ·obtain⟨u',e,w⟩:=J b u t p r v z'
        exact⟨u',e,w.mono (by lia)⟩
     have fb:Gx G (Pt.BF ks d).Ek H (back a H g):=fun b o' e=>by
      by_cases Z:b=a
      ·subst Z
       exact .inl (by rw[Ij];exact e)
      ·rw[FO Z]
       exact(L b o' (by rw[F.ne b Z];exact e)).imp id fun⟨u,t,p,r,v,z⟩=>⟨u,t,p,r,v,by lia⟩
     have w2:=wb.change (u:=.dK kvs) trivial Y (.BF _ _ wd.put)
     have U:=fb.change (u:=.dK kvs) (u':=.dK (putK j Tq (.int 77))) trivial Y O (Nat.le_refl _)
     refine⟨_,rfl,a,_,rfl,Sr.k (k:=Tq) eb (WV (by lia)),?_⟩
     have e2:upd (back a H g) a (.dK (putK j Tq (.int 77))) a=some (.dK (putK j Tq (.int 77))):=AE
     generalize upd (back a H g) a (.dK (putK j Tq (.int 77)))=H3 at w2 U e2⊢
     refine⟨_,rfl,Ax,fun p hp=>?_⟩
     have y:=AG.new (o:=.tup [V.ty "list",V.ty "tuple"]) hp
     refine⟨_,p,"dict",rfl,AE,.n (.dK (.inl (y _ _ e2))),_,rfl,Aj rfl ?_⟩
     exact⟨_,rfl,_,"list","dict",rfl,rfl,.n (.dK (.inl (y _ _ e2))),_,rfl,Aj rfl (q _ (w2.up y) (U.trans (.of y)))⟩
theorem PX {f:Addr} {a:FuncData} (F:Ct K "_law_ruin" "_law_ruin" KQ f a) (T:Txt mg) (b:Binds K a ["_law_thing"] []) (m:mg "_law_ruin"=some (.ref f)):∀n:Nat,BG P w K mg base CW n f a ["_law_thing"] (Gs n)
 |0=>JQ (fun vs H Q E h=>by obtain⟨_,_,t,_,_,_,_,_,c,_⟩:=h;omega)
 |n+1=>ZF F T (Df.mk' F b m (PX F T b m n))
end
end By
namespace By
open PySem L2
section
variable{P:Program} {w:World} {K:ADv} [Ar K] {mg:Str->Option Value} {base:Heap}
theorem W':Ah ["_law_cells","_law_deep","_law_names_here","_law_cell_here","_law_kind","_law_more","_law_told_here","_law_lacking","_law_k","_law_way"] ["_law_cells","_law_deep","_law_names_here"] (AI KR):=⟨rfl,rfl,rfl,by decide+kernel,rfl,by decide+kernel,by decide+kernel⟩
theorem ZH {n:Nat} {f:Addr} {fd:FuncData} (F:Ct K "_law_asks" "_law_asks" KR f fd) (T:Txt mg) (RB:Df P w K mg base "_law_mix" ["_law_cell_here","_law_k"] 1 Fo) (ck:Df P w K mg base "_law_doc" ["_law_cell_here","_law_k","_law_names_here"] 2 Hh) (XA:Df P w K mg base "_law_asks" ["_law_cells","_law_deep","_law_names_here"] n (Jg n)):BG P w K mg base CW (n+1) f fd ["_law_cells","_law_deep","_law_names_here"] (Jg (n+1)):=by
 obtain⟨Yz,Y_,O,S,U,X⟩:=RB.ex
 obtain⟨fDoc,nC,ZI,ZJ,ZK,ZL⟩:=ck.ex
 obtain⟨g_,hB,SI,SJ,SK,SM⟩:=XA.ex
 refine F.ok W' (fun vs H Q E h=>?_) (fun IV A outer s H vs Q E hr h=>?_)
 ·obtain⟨l,d,nm,M,ys,rfl,hd,hl,lc,nl,hn,q⟩:=h
  rfl
 ·obtain⟨l,d,nm,M,ys,rfl,hd,hl,lc,nl,hn,q⟩:=h
  have nd:=W'.nd
  have hu:=BU hr
  have L:Al 1 _:=hr.mono (by first|decide|omega)
  have SN:Al 2 _:=hr.mono (by first|decide|omega)
  have Y:Al n _:=hr.mono (by first|decide|omega)
  refine⟨_,(AF (Ai (AR (bR (Al.Es hr)) (pv 0) (A_ AB) (AZ _)) (AH (AN (BL (AA Ag AB)))) AQ)
   (AF (AY (i:=3) nd rfl (Or.inl rfl) (DH (JD PySem.F.plainAttrs_list PySem.F.slot_list_pop PySem.F.type_list_pop Nh (pv 0) (AA AD AB)) (Nn (pv 0) AD ⟨rfl,rfl,rfl,rfl⟩)))
   (AF (AY (i:=4) nd rfl (Or.inl rfl) (AS BI (AL X L rfl U O S .nil AX (AA (pv 3) (AA AD AB))) AD))
   (AF (AY (i:=5) nd rfl (Or.inl rfl) (DU Bl (AS BI (AL X L rfl U O S .nil AX (AA (pv 3) (AA AD AB))) AD) AD (AZ _)))
   (AF (Ai (PW.pt (pw_or (AR Bl (pv 4) AD (AZ _)) (pw_or1 (PW.pt (pw_and (AR Bl (pv 1) AD (AZ _)) (pw_and1 (AR UY (pv 4) AD (AZ _)))))))) (AH (AN (BL (AA Ag AB)))) AQ)
   (AF (Ai (AR Iy (pv 4) AD (AZ _)) (AH (AN (BL (AA Ag (AA (AL ZL SN rfl ZK ZI ZJ .nil AX (AA (pv 3) (AA AD (AA (pv 2) AB)))) AB))))) AQ)
   (AF (Ai (AR Iy (pv 4) AD (AZ _)) (AH (AN (BL (AA Ag (AA (Bb (fv:=["_law_cells","_law_names_here","_law_deep"]) (fs:=[0,2,1]) rfl (.of (by rfl)) (Bc rfl T.range (AA (AS BI (AL X L rfl U O S .nil AX (AA (pv 3) (AA AD AB))) AD) AB)) (fun _ _ _ _=>Bi) (fun C s0 H0 fp=>(AL SM Y rfl SK SI SJ .nil AX (AA (pv 1) (AA (AS G_ (pv 3) AD) (AA (pv 2) AB)))))) (AA (pv 5) AB)))))) AQ)
   (AF (AY (i:=6) nd rfl (Or.inl rfl) JG)
   (AF (AY (i:=7) nd rfl (Or.inl rfl) (A_ AB))
   (AF (CD PassesOwn.never rfl (Bc rfl T.range (AA AD AB)) (Bh (i:=8) nd rfl (Or.inl rfl)) (AF (AY (i:=9) nd rfl (Or.inl rfl) (AS BI (AS B_ (AL X L rfl U O S .nil AX (AA (pv 3) (AA AD AB))) (AO (r:=B' K) As (A_ (AA AD (AA AD (AA AD (AA AD AB))))) (pv 8) (fun _ _=>rfl))) AD))
   (AF (Ai (AR UY (pv 9) AD (AZ _)) (AH (Ie hu (pv 6) (AO (r:=B' K) As (pv 2) (pv 8) (fun _ _=>rfl)) (AL SM Y rfl SK SI SJ .nil AX (AA (pv 0) (AA (AS G_ (pv 1) AD) (AA (pv 2) AB)))) rfl)) AQ)
   (AH (Ai (AR Bl (pv 9) AD (AZ _)) (AH (Cs (JD PySem.F.plainAttrs_list PySem.F.slot_list_append PySem.F.type_list_append FK (pv 7) (AA (AO (r:=B' K) As (pv 2) (pv 8) (fun _ _=>rfl)) AB)))) AQ)))))
   (AH (AN (BL (AA Ag (AA (pv 6) (AA (AM (Mi rfl:BD _ _ (Qa K)) rfl T.sorted Ey (AA (pv 7) AB)) (AA (pv 5) AB))))))))))))))))),?_⟩
  have nE:H l≠none:=by rw[hl];exact fun z=>nomatch z
  refine⟨_,rfl,Nat.zero_le _,fun pe XB=>⟨l,pe,_,rfl,rfl,Ap.of ((AG.new XB) _ _ hl),Ap.of AE,_,rfl,?_⟩⟩
  have se:=AG.new (o:=.lst []) XB
  generalize upd H pe (.lst [])=H1 at se⊢
  have di:=se _ _ hl
  cases M with
  |nil=>
   refine Bs ⟨Bf,fun p B=>?_⟩
   have XY:=se.free B
   have lp:l≠p:=fun z=>by rw[<-z,di]at B;cases B
   exact q _ .any [] _ (.of (se.trans (AG.new B))) (by rw[AK lp];exact di) (Nat.le_refl _) (.tup (BY.of (by rw[Av XY,AE])) (.cons (.str _) .nil)) trivial (by simp[Ak.size]) (by simp[Ak.deep])
  |cons c M=>
   refine BJ ?_
   refine .inl ⟨_,rfl,.inl ⟨rfl,_,Ap.of di⟩,l,_,0,0,.int c,rfl,rfl,di,by decide,by decide,(GG (by unfold So;rw[if_pos (by decide),if_pos (by simp)];rfl)).1,rfl,?_⟩
   have u:Bt (some l) H (upd H1 l (.lst (M.map V.int))):=(Bt.of se).put
   have J:upd H1 l (.lst (M.map V.int)) l=some (.lst (M.map V.int)):=AE
   show Pp _ _ _ _ (upd H1 l (.lst (M.map V.int)))
   generalize upd H1 l (.lst (M.map V.int))=H2 at u J⊢
   have eD:=hn.but u nl
   simp only[List.length_cons]at lc q
   have hC:∀{Z H4:Hp} {v:V} {t:Pt},Val (nw H2 Z) v t->(∀b o,Z b=some o->H4 b=some o)->Val (nw H H4) v t:=fun h s=>h.up (BX (fun b h=>u.FQ b h) fun b e _ h=>s b e h)
   refine⟨_,rfl,c,0,rfl,by decide,fun r0 _ _=>⟨_,_,rfl,rfl,(by show(0:Int)<_;decide),?_⟩⟩
   have m8:=Dx r0 (n:=8) (by decide)
   generalize r0 % 8=kd at m8⊢
   refine⟨_,rfl,c,2,rfl,by decide,fun r2 _ _=>⟨_,_,rfl,rfl,(by show(0:Int)<_;decide),rfl,?_⟩⟩
   generalize decide (V.int (r2 % 2)=V.int 1)=mo
   dsimp only[Eo]
   have hF:∀p,H2 p=none->Q (.ref p) (upd H2 p (.tup [.str "any"])):=fun p B=>by
    have lp:l≠p:=fun z=>by rw[<-z,J]at B;cases B
    exact q _ .any M _ (u.trans (.of (AG.new B))) (by rw[AK lp];exact J) (by lia) (.tup (BY.of (by rw[Av (u.FQ p B),AE])) (.cons (.str _) .nil)) trivial (by simp[Ak.size]) (by simp[Ak.deep])
   refine VP (t:=Pq _ _ _) (fun H5=>H2=H5/\(d=0->kd<=2)) (fun H5 ⟨e5,hk⟩=>?_) (fun key=>?_)
   rotate_left
   ·refine⟨_,rfl,rfl,_,rfl,Cr (fun _=>Bs ⟨Bf,hF⟩) (fun _=>⟨_,rfl,rfl,_,rfl,Cr (fun h2=>?_) (fun h2=>?_)⟩)⟩
    ·refine⟨_,rfl,_,_,rfl,rfl,_,rfl,Cr (fun _=>⟨Bf,hF⟩) (fun h3=>key H2 ⟨rfl,fun _=>?_⟩)⟩
     have:=of_decide_eq_false h3
     lia
    ·refine BJ (key H2 ⟨rfl,fun z=>?_⟩)
     have:=of_decide_eq_false h2
     subst z
     exact absurd rfl this
   subst e5
   refine⟨_,rfl,_,_,rfl,rfl,_,rfl,Cr (fun _=>?_) (fun h3=>?_)⟩
   ·refine⟨_,rfl,_,rfl,c,1,nm,ys,rfl,by decide,eD,fun v t Z s3 sm=>⟨Ax,fun p B=>?_⟩⟩
    have Ke:=s3.free B
    have lp:l≠p:=fun z=>by rw[<-z,J]at Ke;cases Ke
    refine q _ (.Ao t) M _ (u.trans (.of (s3.trans (AG.new B)))) (by rw[AK lp];exact s3 _ _ J) (by lia) (.tup (BY.of (by rw[Av (u.FQ p Ke),AE])) (.cons (.str _) (.cons (hC sm.val (AG.new B)) .nil))) ?_ (by simp[Ak.size]) (by simp[Ak.deep])
    simp only[Ak.ok]
    exact⟨sm.sm,sm.doc,by have:=sm.size;lia⟩
   have h3:=of_decide_eq_false h3
   obtain⟨d',rfl⟩:∃d',d=d'+1:=⟨d-1,by lia⟩
   have ed:(((d'+1:Nat):Int)-1)=(d':Int):=by lia
   refine⟨_,rfl,_,_,rfl,rfl,_,rfl,Cr (fun _=>?_) (fun _=>?_)⟩
   ·refine⟨_,rfl,c,1,rfl,by decide,fun r1 _ _=>⟨_,_,rfl,rfl,(by show(0:Int)<_;decide),?_⟩⟩
    have m4:=Dx r1 (n:=4) (by decide)
    obtain⟨k4,z_⟩:∃k:Nat,r1 % 4=(k:Int):=⟨(r1 % 4).toNat,by lia⟩
    have AAA:k4<4:=by lia
    rw[z_]
    refine⟨k4,rfl,by lia,by lia,?_⟩
    refine DN (some l) k4 (fun i=>.int (0+(i:Int))) (fun i us Z=>∃(N:List Ak) (g:List Int),us=Ak.Fh N/\Z l=some (.lst (g.map V.int))/\g.length<=M.length/\Ak.HU N/\Ak.AJ N<=i+4*(M.length-g.length)/\Ak.AV N<=d'+1)
     (by lia) (fun D hD=>⟨[],M,rfl,by rw[AK (fun z=>by rw[<-z,J]at hD;cases hD)];exact J,Nat.le_refl _,trivial,by simp[Ak.AJ],by simp[Ak.AV]⟩) (fun i us Z D ws bt hD ⟨N,g,h1,h2,h3⟩=>⟨N,g,h1,by rw[AK (fun z=>by rw[<-z,J]at hD;cases hD)];exact h2,h3⟩)
     (fun l' z=>by cases z;rw[J];exact fun z=>nomatch z) (fun i us Z hi s iv=>hi) (fun i us Z v H' hi s iv y=>⟨y.2,y.1⟩) (fun us Z s iv=>Nat.le_refl _) (fun i us Z R hi bt ⟨N,g,e1,e2,e3,e4,e5,e6⟩ lu k=>?_) (fun D Z ws us hD bt d2 lu vl ⟨N,g,e1,e2,e3,e4,e5,e6⟩=>?_)
    ·refine⟨_,rfl,_,rfl,_,_,rfl,rfl,_,rfl,l,d',nm,g,ys,by rw[ed];rfl,by lia,e2,by lia,nl,eD.but bt nl,fun v a ZM H4 aV T' wW v4 ok4 sz4 dp4=>k v a.pt H4 aV v4 ⟨N++[a],ZM,?_,T',by lia,Ak.EZ e4 (Ak.Il ok4),?_,?_⟩⟩
     ·rw[Ak.EY,e1];rfl
     ·rw[Ak.Am,Ak.FV];lia
     ·rw[Ak.Bm,Ak.FW];lia
    ·refine⟨_,rfl,Ab (show 3<=1000 by decide),fun p B=>?_⟩
     have Ke:=bt.FQ p B
     have pD:D≠p:=fun z=>by rw[<-z,d2]at B;cases B
     have lp:l≠p:=fun z=>by rw[<-z,e2]at B;cases B
     subst e1
     refine q _ (.row N mo) g _ ((u.trans bt).trans (.of (AG.new B))) (by rw[AK lp];exact e2) (by lia) (.tup (BY.of (by rw[Av (u.FQ p Ke),AE])) (.cons (.str _) (.cons (.lst (.inl (by rw[Av (u.FQ D hD),AK pD];exact d2)) (vl.up (BX (fun b h=>u.FQ b h) fun b e _ h=>AG.new B b e h))) (.cons (.bl _) .nil)))) e4 ?_ ?_
     ·simp only[Ak.size];lia
     ·simp only[Ak.deep];lia
   ·refine fun p6 wX=>?_
    have t6:=AG.new (o:=.dK []) wX
    have f6:upd H2 p6 (.dK []) p6=some (.dK []):=AE
    generalize upd H2 p6 (.dK [])=Z at t6 f6⊢
    refine⟨Nat.zero_le _,fun p7 wY=>?_⟩
    have t7:=AG.new (o:=.lst []) wY
    have f7:upd Z p7 (.lst []) p7=some (.lst []):=AE
    have hG:=t7 _ _ f6
    generalize upd Z p7 (.lst [])=H4 at t7 f7 hG⊢
    have aV:Bt (some l) H H4:=u.trans (.of (t6.trans t7))
    have T0:Fi H H4 l p6 p7 ys (d'+1) M.length 0 H4 [] [] [] M []:={
     n6:=u.FQ p6 wX
     n7:=u.FQ p7 (t6.free wY)
     o6:=by rw[hG];exact fun z=>nomatch z
     o7:=by rw[f7];exact fun z=>nomatch z
     ne:=fun z=>by rw[z,f7]at hG;cases hG
     hl:=nE
     h4:=aV.FQ
     bt:=aV
     dm:=fun b h=>h
     e6:=hG
     e7:=f7
     el:=(t6.trans t7) _ _ J
     le:=Nat.le_refl _
     lw:=rfl
     la:=rfl
     vl:=.nil
     ok:=trivial
     sz:=by simp[Ak.AJ]
     dp:=by simp[Ak.AV]
     ik:=fun k h=>nomatch h
     il:=fun k h=>nomatch h
     nk:=.nil
     dj:=fun k h=>nomatch h
     l4:=Nat.le_refl _
     m4:=Nat.le_refl _
     nl:=.nil}
    refine⟨4,rfl,by decide,by decide,Dn (lo:=0) (n:=4) (fun i σ Hi=>∃(ks:List Str) (N:List Ak) (ls:List Str) (g:List Int) (ws:List V) (o8 o9:Option V),σ=[some (.ref l),some (.int ((d'+1:Nat):Int)),some (.ref nm),some (.int c),some (.int kd),some (.bl mo),some (.ref p6),some (.ref p7),o8,o9]/\Fi H H4 l p6 p7 ys (d'+1) M.length i Hi ks N ls g ws)
     ⟨[],[],[],M,[],none,none,rfl,T0⟩ ?_ ?_⟩
    ·rintro i σ Hi hi ⟨ks,N,ls,g,ws,o8,o9,rfl,TI⟩
     obtain⟨y,hy⟩:∃y,ys[i]?=some y:=⟨_,ADr (by rw[hn.len];exact hi)⟩
     have ay:Na (ys.map V.str) (0+(i:Int))=some (.str y):=by
      have e0:(0:Int)+(i:Int)=(i:Int):=by lia
      rw[e0]
      exact Aq (by rw[List.getElem?_map,hy];rfl)
     obtain⟨v4,hJ,wZ⟩:=GQ (xs:=[V.int 1,V.int 4,V.int 16,V.int 64]) (i:=0+(i:Int)) (by lia) (by simp only[List.length_cons,List.length_nil];lia)
     have vb:∃m:Int,v4=.int m/\0<m/\m<1073741824:=by
      simp only[List.mem_cons,List.not_mem_nil,or_false]at wZ
      rcases wZ with rfl|rfl|rfl|rfl
      ·exact⟨_,rfl,by decide,by decide⟩
      ·exact⟨_,rfl,by decide,by decide⟩
      ·exact⟨_,rfl,by decide,by decide⟩
      ·exact⟨_,rfl,by decide,by decide⟩
     obtain⟨m,rfl,jq,jr⟩:=vb
     refine⟨_,rfl,c,1,rfl,by decide,fun r1 _ _=>⟨Ab (show 4<=1000 by decide),fun pl cF=>⟨_,rfl,pl,_,_,_,rfl,rfl,Ap.of AE,hJ,_,_,rfl,rfl,⟨jq,jr⟩,_,_,rfl,rfl,(by show(0:Int)<_;decide),?_⟩⟩⟩
     have I:=TI.up (AG.new (o:=.lst [V.int 1,V.int 4,V.int 16,V.int 64]) cF)
     generalize upd Hi pl (.lst [V.int 1,V.int 4,V.int 16,V.int 64])=Hj at I⊢
     clear TI
     generalize r1/m % 4=wy
     have nF:=hn.but I.bt nl
     dsimp only[Eo]
     refine⟨_,rfl,_,_,rfl,rfl,_,rfl,Cr (fun h1=>?_) (fun h1=>?_)⟩
     ·have h1:=of_decide_eq_true h1
      refine⟨_,rfl,_,rfl,_,_,rfl,rfl,_,rfl,l,d',nm,g,ys,by rw[ed];rfl,by lia,I.el,by have:=I.le;lia,nl,nF,fun v a ZM H5 wa cm le5 v5 ok5 sz5 dp5=>?_⟩
      obtain⟨g1,g2,TI2⟩:=I.asked hy hn.nd wa cm le5 v5 ok5 sz5 dp5
      have l4:=I.l4
      refine⟨_,rfl,_,rfl,_,rfl,nm,_,_,_,rfl,rfl,Ap.of (nF.but wa nl).at_,ay,p6,_,rfl,.inl ⟨_,Sum.inr y,g1,rfl,BV (by rw[FT I.lw];lia),rfl⟩,?_⟩
      rw[g2]
      refine⟨_,rfl,rfl,_,rfl,Aj (decide_eq_false fun z=>?_) ⟨_,_,_,_,_,_,_,rfl,TI2⟩⟩
      have:=V.int.inj z
      lia
     ·refine⟨_,rfl,rfl,_,rfl,Cr (fun _=>?_) (fun _=>⟨_,_,_,_,_,_,_,rfl,I.weak⟩)⟩
      have m4:=I.m4
      exact⟨_,rfl,.inl ⟨rfl,_,Ap.of I.e7⟩,_,rfl,_,rfl,nm,_,_,_,rfl,rfl,Ap.of nF.at_,ay,p7,_,_,rfl,rfl,I.e7,BV (by rw[List.length_map];lia),_,_,_,_,_,_,_,rfl,I.mK hy hn.nd⟩
    ·rintro σ Hi ⟨ks,N,ls,g,ws,o8,o9,rfl,TI⟩
     have l4:=TI.l4
     have m4:=TI.m4
     refine⟨_,rfl,_,rfl,p7,ls,rfl,Ap.of TI.e7,by lia,fun p8 ss H5 np8 s5 f8 pm so8=>⟨_,rfl,Ab (show 4<=1000 by decide),fun p B=>?_⟩⟩
     have jf:=s5.free B
     have XY:=TI.bt.FQ p jf
     have p8p:p8≠p:=fun z=>by rw[<-z,f8]at B;cases B
     have h8:H p8=none:=TI.bt.FQ p8 np8
     have lp:l≠p:=fun z=>nE (by rw[z];exact XY)
     have p6p:p6≠p:=fun z=>by have:=s5 _ _ TI.e6;rw[z,B]at this;cases this
     have s6:=s5.trans (AG.new (o:=.tup [.str "table",.ref p6,.ref p8,.bl mo]) B)
     refine q _ (.tab ks N ss mo) g _ (TI.bt.trans (.of s6)) (s6 _ _ TI.el) (by have:=TI.le;lia) (.tup (BY.of (by rw[Av XY,AE])) (.cons (.str _) (.cons (.BF (.inl (by rw[Av TI.n6];exact s6 _ _ TI.e6)) (CT TI.lw) ?_) (.cons (.lst (.inl (by rw[Av h8,AK p8p];exact f8)) ?_) (.cons (.bl _) .nil))))) ?_ ?_ ?_
     ·rw[EB TI.lw]
      exact TI.vl.up (BX (fun b h=>TI.h4 b h) fun b e _ h=>s6 _ _ h)
     ·have gen:∀{G:Hp} (ls:List Str),Aa G (ls.map V.str) (ls.map Pt.str):=by
       intro G ls
       induction ls with
       |nil=>exact .nil
       |cons x r ih=>exact .cons (.str x) ih
      exact gen ss
     ·simp only[Ak.ok]
      exact⟨TI.la,TI.nk,fun k hk=>let⟨j,_,h2⟩:=TI.ik k hk;hn.nb k (ADu h2),by lia,⟨by rw[pm.length_eq];lia,pm.nodup_iff.mpr TI.nl,so8⟩,fun x hx=>TI.dj x (pm.mem_iff.mp hx),TI.ok⟩
     ·have:=TI.sz
      have:=TI.le
      simp only[Ak.size];lia
     ·have:=TI.dp
      simp only[Ak.deep];lia
theorem PY {f:Addr} {d:FuncData} (F:Ct K "_law_asks" "_law_asks" KR f d) (T:Txt mg) (b:Binds K d ["_law_cells","_law_deep","_law_names_here"] []) (m:mg "_law_asks"=some (.ref f)) (a:Df P w K mg base "_law_mix" ["_law_cell_here","_law_k"] 1 Fo) (c:Df P w K mg base "_law_doc" ["_law_cell_here","_law_k","_law_names_here"] 2 Hh):∀n:Nat,BG P w K mg base CW n f d ["_law_cells","_law_deep","_law_names_here"] (Jg n)
 |0=>JQ (fun vs H Q E h=>by obtain⟨_,_,_,_,_,_,e,_⟩:=h;omega)
 |n+1=>ZH F T a c (Df.mk' F b m (PY F T b m a c n))
end
end By
namespace By
open PySem L2
section
variable{P:Program} {w:World} {K:ADv} [Ar K] {mg:Str->Option Value} {base:Heap}
theorem aW:Ah ["_law_asks_here","_law_cells","_law_names_here","_law_cell_here","_law_some","_law_doc_here","_law_k","_law_name"] ["_law_asks_here","_law_cells","_law_names_here"] (AI Qx):=⟨rfl,rfl,rfl,by decide+kernel,rfl,by decide+kernel,by decide+kernel⟩
theorem cn {n:Nat} {f:Addr} {fd:FuncData} (F:Ct K "_law_fit" "_law_fit" Qx f fd) (T:Txt mg) (RB:Df P w K mg base "_law_mix" ["_law_cell_here","_law_k"] 1 Fo) (ck:Df P w K mg base "_law_doc" ["_law_cell_here","_law_k","_law_names_here"] 2 Hh) (PV:Df P w K mg base "_law_copy" ["_law_thing"] 6 (Dd 6)) (cq:Df P w K mg base "_law_fit" ["_law_asks_here","_law_cells","_law_names_here"] n (KO n)):BG P w K mg base CW (n+1) f fd ["_law_asks_here","_law_cells","_law_names_here"] (KO (n+1)):=by
 obtain⟨Yz,Y_,Y',ZA,ZC,ZD⟩:=RB.ex
 obtain⟨fDoc,nC,ZI,ZJ,ZK,ZL⟩:=ck.ex
 obtain⟨aT,aU,SO,SQ,SR,SU⟩:=PV.ex
 obtain⟨nG,nH,XC,XD,XE,XF⟩:=cq.ex
 refine F.ok aW (fun vs H Q E h=>?_) (fun IV A outer s H vs Q E hr h=>?_)
 ·obtain⟨w,a0,l,nm,cs,ys,rfl,hw,X,hd,za,hl,lc,nl,hn,q⟩:=h
  rfl
 ·obtain⟨w,a0,l,nm,cs,ys,rfl,hw,X,hd,za,hl,lc,nl,hn,q⟩:=h
  have nd:=aW.nd
  have hu:=BU hr
  have aX:Al 1 _:=hr.mono (by first|decide|omega)
  have SN:Al 2 _:=hr.mono (by first|decide|omega)
  have NH:Al 6 _:=hr.mono (by first|decide|omega)
  have PZ:Al n _:=hr.mono (by first|decide|omega)
  refine⟨_,(AF (AY (i:=3) nd rfl (Or.inr rfl) AD)
   (AF (Ai (AR (HR (Al.Es hr)) (pv 1) (A_ AB) (AZ _)) (AH (AY (i:=3) nd rfl (Or.inr rfl) (DH (JD PySem.F.plainAttrs_list PySem.F.slot_list_pop PySem.F.type_list_pop Nh (pv 1) (AA AD AB)) (Nn (pv 1) AD ⟨rfl,rfl,rfl,rfl⟩)))) AQ)
   (AF (Ai (AR Bl (AO (r:=Aw K) AU (pv 0) AD (fun _ _=>rfl)) Ag (AZ _)) (AH (AN (AL ZL SN rfl ZK ZI ZJ .nil AX (AA (pv 3) (AA AD (AA (pv 2) AB)))))) AQ)
   (AF (Ai (AR Bl (AO (r:=Aw K) AU (pv 0) AD (fun _ _=>rfl)) Ag (AZ _)) (AH (AN (AL SU NH rfl SR SO SQ .nil AX (AA (AO (r:=Aw K) AU (pv 0) AD (fun _ _=>rfl)) AB)))) AQ)
   (AF (EN (i:=4) (fv:=["_law_cell_here","_law_names_here"]) (fs:=[3,2]) rfl (.of (by rfl)) nd rfl (Or.inl rfl) (Bc rfl T.range (AA (AS BI (AL ZD aX rfl ZC Y' ZA .nil AX (AA (pv 3) (AA AD AB))) AD) AB)) (fun _ _ _ _=>Bi) (fun C s0 H0 fp=>(AL ZL SN rfl ZK ZI ZJ .nil AX (AA (pv 1) (AA (AS Bq AD (pv 0)) (AA (pv 2) AB))))))
   (AF (Ai (AR Bl (AO (r:=Aw K) AU (pv 0) AD (fun _ _=>rfl)) Ag (AZ _)) (AH (AN (AS JE (Bb (fv:=["_law_cells","_law_names_here"]) (fs:=[1,2]) rfl (.of (by rfl)) (Bk (AO (r:=Aw K) AU (pv 0) AD (fun _ _=>rfl))) (fun _ _ _ _=>Bi) (fun C s0 H0 fp=>(AL XF PZ rfl XE XC XD .nil AX (AA (pv 0) (AA (pv 1) (AA (pv 2) AB)))))) (AS Ul (pv 4) (Bd Kx rfl T.int Zy (AA (AO (r:=Aw K) AU (pv 0) AD (fun _ _=>rfl)) AB)))))) AQ)
   (AF (AY (i:=5) nd rfl (Or.inl rfl) (Bd (Ej rfl) rfl T.dict Co (AA (Bb (fv:=["_law_cells","_law_names_here","_law_asks_here"]) (fs:=[1,2,0]) rfl (.of (by rfl)) (Bk (AM (ER rfl) rfl T.sorted Ey (AA (AO (r:=Aw K) AU (pv 0) AD (fun _ _=>rfl)) AB))) (fun _ _ _ _=>Bi) (fun C s0 H0 fp=>(BL (AA (pv 0) (AA (AL XF PZ rfl XE XC XD .nil AX (AA (Bx hu (AO (r:=Aw K) AU (pv 3) AD (fun _ _=>rfl)) (pv 0) (fun _ _=>rfl)) (AA (pv 1) (AA (pv 2) AB)))) AB))))) AB)))
   (AF (CD PassesOwn.never rfl (Bc rfl T.range (AA (AS Er (AM Ad rfl T.len PySem.boot_len (AA (pv 4) AB)) (Bd Kx rfl T.int Zy (AA (AO (r:=Aw K) AU (pv 0) AD (fun _ _=>rfl)) AB))) AB)) (Bh (i:=6) nd rfl (Or.inl rfl)) (AF (AY (i:=7) nd rfl (Or.inl rfl) (AO (r:=B' K) As (pv 2) (AS BI (AS Bq (AL ZD aX rfl ZC Y' ZA .nil AX (AA (pv 3) (AA AD AB))) (pv 6)) AD) (fun _ _=>rfl)))
   (AH (Ai (PW.pt (pw_and (Pn (LI hu (pv 7) (AO (r:=Aw K) AU (pv 0) AD (fun _ _=>rfl)))) (pw_and1 (AR (GK:DC _ _ (df K true)) (pv 7) (AO (r:=Aw K) AU (pv 0) AD (fun _ _=>rfl)) rfl)))) (AH (Ie hu (pv 5) (pv 7) (AO (r:=B' K) As (pv 4) (pv 6) (fun _ _=>rfl)) rfl)) AQ))))
   (AH (AN (pv 5))))))))))),?_⟩
  have nE:H l≠none:=by rw[hl];exact fun z=>nomatch z
  refine gF ?_
  refine Mb (t:=Pq _ _ _) (fun σ' H1=>∃(c:Int) (XG:List Int),σ'=[some w,some (.ref l),some (.ref nm),some (.int c),none,none,none,none]/\Bt (some l) H H1/\H1 l=some (.lst (XG.map V.int))/\XG.length<=cs.length) (fun σ' H1 ⟨c,XG,es,L,O,wc⟩=>?_) (fun key=>?_)
  rotate_left
  ·refine⟨_,rfl,Nat.zero_le _,fun pe XB=>⟨l,pe,_,rfl,rfl,Ap.of ((AG.new XB) _ _ hl),Ap.of AE,_,rfl,?_⟩⟩
   have se:=AG.new (o:=.lst []) XB
   generalize upd H pe (.lst [])=H1 at se⊢
   have O:=se _ _ hl
   cases cs with
   |nil=>exact BJ (key _ _ ⟨1001,[],rfl,.of se,O,Nat.le_refl _⟩)
   |cons c cs=>
    refine Bs ?_
    exact .inl ⟨_,rfl,.inl ⟨rfl,_,Ap.of O⟩,l,_,0,0,.int c,rfl,rfl,O,by decide,by decide,(GG (by unfold So;rw[if_pos (by decide),if_pos (by simp)];rfl)).1,rfl,key _ _ ⟨c,cs,rfl,(Bt.of se).put,AE,by simp⟩⟩
  subst es
  have cu:=hn.but L nl
  have hw1:=hw.up L.Dk
  obtain⟨U,w0,rest,rfl,eE,kinds⟩:=hw1.ak
  have Z:=eE.up DZ
  rcases kinds with⟨rfl,rfl,rfl⟩|⟨d,u,rfl,rfl,rfl,XH⟩|⟨xs,m,u,rfl,rfl,rfl,XH⟩|⟨ks,xs,ls,m,u,z,rfl,rfl,rfl,XH,hz⟩
  ·refine⟨_,rfl,U,_,0,_,rfl,rfl,Z,Cw,rfl,_,rfl,BK (by decide+kernel) ?_⟩
   refine⟨_,rfl,_,rfl,c,3,nm,ys,rfl,by decide,cu,fun v t Y s2 sm=>q v t XG Y (L.trans (.of s2)) (s2 _ _ O) wc (sm.val.up (BX (fun b h=>L.FQ b h) fun b e _ h=>h)) sm.doc ?_ ?_ ?_ (by simp only[Ak.lets])⟩
   ·have:=sm.size;simp only[Ak.size];lia
   ·have:=sm.deep;simp only[Ak.deep];lia
   ·have:=Pt.EC t sm.doc;have:=sm.size;lia
  ·refine⟨_,rfl,U,_,0,_,rfl,rfl,Z,Cw,rfl,_,rfl,Aj (by decide+kernel) ?_⟩
   refine⟨_,rfl,U,_,0,_,rfl,rfl,Z,Cw,rfl,_,rfl,BK (by decide+kernel) ?_⟩
   simp only[Ak.ok]at X
   have dd:=X.1.YT
   refine⟨_,rfl,U,_,1,u,rfl,rfl,Z,Ca,u,d,rfl,XH.up DZ,Pt.Gb d X.2.1 (by lia),by lia,fun v Y s2 v2=>q v d XG Y (L.trans (.of s2)) (s2 _ _ O) wc (v2.up (BX (fun b h=>L.FQ b h) fun b e _ h=>h)) X.2.1 ?_ ?_ ?_ (by simp only[Ak.lets];exact Pt.FD _ (Pt.Ju _ (Pt.Gb d X.2.1 (by lia))))⟩
   ·simp only[Ak.size];lia
   ·simp only[Ak.deep];lia
   ·have:=Pt.EC d X.2.1;lia
  ·skip
   refine⟨_,rfl,U,_,0,_,rfl,rfl,Z,Cw,rfl,_,rfl,Aj (by decide+kernel) ?_⟩
   refine⟨_,rfl,U,_,0,_,rfl,rfl,Z,Cw,rfl,_,rfl,Aj (by decide+kernel) ?_⟩
   refine⟨_,rfl,c,3,rfl,by decide,fun r3 _ _=>⟨_,_,rfl,rfl,(by show(0:Int)<_;decide),?_⟩⟩
   have m3:=Dx r3 (n:=3) (by decide)
   obtain⟨k3,nJ⟩:∃k:Nat,r3 % 3=(k:Int):=⟨(r3 % 3).toNat,by lia⟩
   have nM:k3<3:=by lia
   rw[nJ]
   refine⟨k3,rfl,by lia,by lia,?_⟩
   refine DN none k3 (fun i=>.int (0+(i:Int))) (fun i B Y=>Dl B) (by lia) (fun D hD u h=>nomatch h) (fun i B Y D ws J hD iv=>iv) (fun l' z=>nomatch z) (fun i B Y hi s iv=>hi) (fun i B Y v H' hi s iv y=>⟨y.2,y.1⟩) (fun B Y s iv=>Nat.le_refl _) (fun i B Y R hi J iv lu k=>?_) (fun D4 Y M js hR nN d4 lu4 hU hV=>?_)
   ·have e0:(4:Int)+(0+(i:Int))=((4+i:Nat):Int):=by lia
    refine⟨_,rfl,_,rfl,_,_,rfl,rfl,_,rfl,c,4+i,nm,ys,by rw[e0];rfl,by lia,cu.up J.same,fun v t g s3 sm=>k v t g (.of s3) sm.val ?_⟩
    intro x hx
    rcases List.mem_append.mp hx with hx|hx
    ·exact iv x hx
    ·rw[List.mem_singleton.mp hx];exact⟨sm.doc,sm.size,sm.deep⟩
   have S:=nN.same
   have hW:Bt (some l) H Y:=L.trans (.of S)
   have Wx:=S _ _ O
   have Wu:=Z.up S
   have eD:=cu.up S
   have lw4:=hU.length
   refine⟨_,rfl,U,_,0,_,rfl,rfl,Wu,Cw,rfl,_,rfl,BK (by decide+kernel) ?_⟩
   simp only[Ak.ok]at X
   simp only[Ak.deep]at hd
   simp only[Ak.size]at za
   have we:=Ak.CV xs
   cases XH with
   |@lst a vs _ h_ ra=>
    have la:=ra.length
    rw[Ak.BH,List.length_map]at la
    have eF:Rd H1 a (.lst vs):=h_.up (DZ _)
    have al:a≠l:=fun z=>by
     subst z
     rcases h_ with h|⟨o,h⟩<;>(unfold Dk at h;rw[if_pos rfl]at h;cases h)
    have cv:∀{g:Hp},Bt (some l) H1 g->Rd g a (.lst vs):=fun J=>eF.up fun o e=>J.keep a o (fun z=>al (ADt z).symm) e
    have b12:Bt (some l) H1 Y:=.of S
    refine⟨_,rfl,U,_,1,_,rfl,rfl,Wu,Ca,a,rfl,⟨_,.inl (cv b12)⟩,?_⟩
    refine DN (some l) xs.length (fun i=>vs.getD i .BO) (fun i B g=>∃I:List Int,g l=some (.lst (I.map V.int))/\I.length<=XG.length/\Pt.CH B/\Pt.AJ B<=10*Ak.AJ (xs.take i)/\Pt.AV B<=Ak.AV xs+2/\Pt.CC B<=61/\Ak.LP xs B)
     (by lia) (fun D hD=>⟨XG,by rw[AK (fun z=>by rw[<-z,Wx]at hD;cases hD)];exact Wx,Nat.le_refl _,trivial,by simp[Pt.AJ],by simp[Pt.AV],by simp[Pt.CC],fun j x y _ h=>nomatch h⟩) (fun i B g D ws J hD ⟨I,h1,h2⟩=>⟨I,by rw[AK (fun z=>by rw[<-z,Wx]at hD;cases hD)];exact h1,h2⟩)
     (fun l' z=>by cases z;rw[Wx];exact fun z=>nomatch z) (fun i B g hi s iv=>⟨_,_,.inl (cv (b12.trans s)),ADr (by lia)⟩) (fun i B g v H' hi s iv y=>?_) (fun B g s iv=>⟨_,.inl (cv (b12.trans s)),by lia⟩) (fun i B g R hi J ⟨I,e2,e3,e4,e5,e6,e7,lp⟩ lu k=>?_) (fun D g ws B hD J d2 lu vl ⟨I,e2,e3,e4,e5,e6,e7,lp⟩=>?_)
    ·obtain⟨e,y⟩:=y
     refine⟨?_,e⟩
     have:=y _ (.inl (cv (b12.trans s)))
     rw[List.getD_eq_getElem?_getD,this]
     rfl
    ·obtain⟨x,hx⟩:∃x,vs[i]?=some x:=⟨_,ADr (by lia)⟩
     obtain⟨px,g1,vx⟩:=ra.get hx
     obtain⟨ax,RC⟩:∃ax,xs[i]?=some ax:=⟨_,ADr hi⟩
     rw[Ak.BH,List.getElem?_map,RC]at g1
     cases g1
     have m1:=ADu RC
     have d1:=Ak.BC m1
     have z1:=Ak.Bj m1
     have ev:vs.getD i .BO=x:=by rw[List.getD_eq_getElem?_getD,hx];rfl
     rw[ev]
     refine⟨_,rfl,_,rfl,_,rfl,x,ax,l,nm,I,ys,rfl,vx.up (b12.trans J).Dk,Ak.GZ X _ m1,by lia,by lia,e2,by lia,nl,eD.but J nl,fun v t ZM H4 aV T' wW v4 nO z4 p4 w4 l4=>k v t H4 aV v4 ⟨ZM,T',by lia,Pt.FC e4 ⟨nO,trivial⟩,?_,?_,by rw[Pt.EW];simp only[Pt.CC];lia,lp.snoc lu RC l4⟩⟩
     ·rw[Pt.Am,List.take_add_one,RC,Ak.Am]
      simp only[Pt.AJ,Option.toList,Ak.AJ]
      lia
     ·rw[Pt.Bm]
      simp only[Pt.AV]
      lia
    ·rw[List.take_length]at e5
     have d43:=J.keep D4 _ (fun z=>by rw[<-ADt z,O]at hR;cases hR) d4
     have t3:=eE.vf ((Bt.of S).trans J)
     refine⟨_,rfl,_,rfl,U,_,2,_,rfl,rfl,t3,at2,.inr ⟨m,rfl,?_⟩⟩
     have sz4:=hV.size
     have dp4:=hV.deep
     have lv:=vl.length
     have lu5:=Pt.CV B
     have fin:∀(kk:Nat),kk<=1->(kk=1->m=true)->Xf fe (fun σ H Q=>Q (V.ref D) H) (fun σ H Q=>ff (V.ref D4) (V.int (kk:Int)) H Q) [] g Q:=fun kk hkk hm=>by
      refine⟨D4,(kk:Int),M,rfl,rfl,d43,by lia,by lia,Ab (by rw[Int.toNat_natCast];have:M.length*kk<=M.length*1:=Nat.mul_le_mul_left _ hkk;lia),fun p hp=>?_⟩
      rw[Int.toNat_natCast]
      obtain⟨wr,ur,rp,ru,um⟩:∃(wr:List V) (ur:List Pt),(List.replicate kk M).flatten=wr/\(wr=M/\ur=js∨wr=[]/\ur=[])/\(ur=[]∨m=true):=by
       have:kk=0∨kk=1:=by lia
       rcases this with rfl|rfl
       ·exact⟨[],[],by simp,.inr ⟨rfl,rfl⟩,.inl rfl⟩
       ·exact⟨M,js,by simp,.inl ⟨rfl,rfl⟩,.inr (hm rfl)⟩
      rw[rp]
      have lr:wr.length<=2:=by
       rcases ru with⟨rfl,rfl⟩|⟨rfl,rfl⟩
       ·lia
       ·simp
      have z4:Pt.AJ ur<=8:=by
       rcases ru with⟨rfl,rfl⟩|⟨rfl,rfl⟩
       ·lia
       ·simp[Pt.AJ]
      have y4:Pt.AV ur<=2:=by
       rcases ru with⟨rfl,rfl⟩|⟨rfl,rfl⟩
       ·lia
       ·simp[Pt.AV]
      have x4:Pt.CH ur:=by
       rcases ru with⟨rfl,rfl⟩|⟨rfl,rfl⟩
       ·exact hV.mL
       ·trivial
      have v4:Aa (nw H1 Y) wr ur:=by
       rcases ru with⟨rfl,rfl⟩|⟨rfl,rfl⟩
       ·exact hU
       ·exact .nil
      have sp:=AG.new (o:=.lst wr) hp
      have fp:upd g p (.lst wr) p=some (.lst wr):=AE
      generalize upd g p (.lst wr)=H4 at sp fp⊢
      refine⟨D,p,_,_,rfl,rfl,sp _ _ d2,fp,Ab (by lia),fun p2 Ke=>?_⟩
      have jt:=sp.trans (AG.new (o:=.lst (ws++wr)) Ke)
      have nP:=hW.FQ p2 (J.FQ p2 (sp.free Ke))
      refine q _ (.lst (B++ur)) I _ ((hW.trans J).trans (.of jt)) (jt _ _ e2) (by lia) (.lst (.inl (by rw[Av nP,AE])) ((vl.up (BX (fun b h=>hW.FQ b h) fun b e h1 h2=>jt _ _ h2)).append (v4.up (BX (fun b h=>L.FQ b h) fun b e h1 h2=>jt _ _ (J.keep b e (fun z=>by rw[<-ADt z,O]at h1;cases h1) h2))))) (Pt.FC e4 x4) ?_ ?_ ?_ (lp.row lu um)
      ·simp only[Pt.size,Ak.size];rw[Pt.Am];lia
      ·simp only[Pt.deep,Ak.deep];rw[Pt.Bm];lia
      ·have:=Pt.EX ur x4;simp only[Pt.wide];rw[Pt.EW];lia
     cases m with
     |true=>exact fin 1 (by decide) (fun _=>rfl)
     |false=>exact fin 0 (by decide) (fun z=>nomatch z)
  ·skip
   refine⟨_,rfl,U,_,0,_,rfl,rfl,Z,Cw,rfl,_,rfl,Aj (by decide+kernel) ?_⟩
   refine⟨_,rfl,U,_,0,_,rfl,rfl,Z,Cw,rfl,_,rfl,Aj (by decide+kernel) ?_⟩
   refine⟨_,rfl,c,3,rfl,by decide,fun r3 _ _=>⟨_,_,rfl,rfl,(by show(0:Int)<_;decide),?_⟩⟩
   have m3:=Dx r3 (n:=3) (by decide)
   obtain⟨k3,nJ⟩:∃k:Nat,r3 % 3=(k:Int):=⟨(r3 % 3).toNat,by lia⟩
   have nM:k3<3:=by lia
   rw[nJ]
   refine⟨k3,rfl,by lia,by lia,?_⟩
   refine DN none k3 (fun i=>.int (0+(i:Int))) (fun i B Y=>Dl B) (by lia) (fun D hD u h=>nomatch h) (fun i B Y D ws J hD iv=>iv) (fun l' z=>nomatch z) (fun i B Y hi s iv=>hi) (fun i B Y v H' hi s iv y=>⟨y.2,y.1⟩) (fun B Y s iv=>Nat.le_refl _) (fun i B Y R hi J iv lu k=>?_) (fun D4 Y M js hR nN d4 lu4 hU hV=>?_)
   ·have e0:(4:Int)+(0+(i:Int))=((4+i:Nat):Int):=by lia
    refine⟨_,rfl,_,rfl,_,_,rfl,rfl,_,rfl,c,4+i,nm,ys,by rw[e0];rfl,by lia,cu.up J.same,fun v t g s3 sm=>k v t g (.of s3) sm.val ?_⟩
    intro x hx
    rcases List.mem_append.mp hx with hx|hx
    ·exact iv x hx
    ·rw[List.mem_singleton.mp hx];exact⟨sm.doc,sm.size,sm.deep⟩
   have S:=nN.same
   have hW:Bt (some l) H Y:=L.trans (.of S)
   have Wx:=S _ _ O
   have Wu:=Z.up S
   have eD:=cu.up S
   have lw4:=hU.length
   refine⟨_,rfl,U,_,0,_,rfl,rfl,Wu,Cw,rfl,_,rfl,Aj (by decide+kernel) ?_⟩
   simp only[Ak.ok]at X
   simp only[Ak.deep]at hd
   simp only[Ak.size]at za
   have we:=Ak.CV xs
   obtain⟨o1,o2,o3,o4,o5,o6,o7⟩:=X
   cases XH with
   |@BF a kvs _ _ h_ Ph ra=>
    cases hz with
    |@lst lz ju _ wg rl=>
     have kl:kvs.length=ks.length:=by have:=congrArg List.length Ph;simpa using this
     have eF:Rd H1 a (.dK kvs):=h_.up (DZ _)
     have al:a≠l:=fun z=>by
      subst z
      rcases h_ with h|⟨o,h⟩<;>(unfold Dk at h;rw[if_pos rfl]at h;cases h)
     have cv:∀{g:Hp},Bt (some l) H1 g->Rd g a (.dK kvs):=fun J=>eF.up fun o e=>J.keep a o (fun z=>al (ADt z).symm) e
     have wh:Rd H1 lz (.lst ju):=wg.up (DZ _)
     have zl:lz≠l:=fun z=>by
      subst z
      rcases wg with h|⟨o,h⟩<;>(unfold Dk at h;rw[if_pos rfl]at h;cases h)
     have hzN:∀{g:Hp},Bt (some l) H1 g->Rd g lz (.lst ju):=fun J=>wh.up fun o e=>J.keep lz o (fun z=>zl (ADt z).symm) e
     have nQ:∀{g:Hp},Bt (some l) H1 g->BY K g U [.str "table",.ref a,.ref lz,.bl m]:=fun J=>eE.vf J
     have jv:ju=ls.map V.str:=by
      have gen:∀{G:Hp} {vs:List V} {ls:List Str},Aa G vs (ls.map Pt.str)->vs=ls.map V.str:=by
       intro G vs ls
       induction ls generalizing vs with
       |nil=>intro h;cases h;rfl
       |cons x r ih=>
        intro h
        cases h with
        |cons h1 h2=>cases h1;rw[List.map_cons,ih h2]
      exact gen rl
     have b12:Bt (some l) H1 Y:=.of S
     refine⟨_,rfl,U,_,1,_,rfl,rfl,Wu,Ca,a,kvs,ks,rfl,cv b12,Ph,by lia,fun ps ss wk wm iA wq pm st=>?_⟩
     have bb:Bt (some l) H1 wk:=b12.trans (.of iA)
     have ZN:=iA _ _ Wx
     obtain⟨as,jx⟩:=Hd o1 (ss:=ss) fun k hk=>pm.mem_iff.mp hk
     have wu:=Cu o1 o2 pm jx
     have mY:as.length=ss.length:=by have:=congrArg List.length jx;simpa using this.symm
     have lss:=pm.length_eq
     have wz:ss.Nodup:=pm.nodup_iff.mpr o2
     refine⟨ps,rfl,⟨_,Ap.of wq⟩,?_⟩
     have lps:l≠ps:=fun z=>by rw[<-z,Wx]at wm;cases wm
     have nR:∀{g:Hp},Bt (some l) wk g->g ps=some (.lst (ss.map V.str)):=fun J=>J.keep _ _ (fun z=>lps (ADt z)) wq
     have li:∀i,i<ss.length->(ss.map V.str)[i]?=some (.str (ss.getD i "")):=fun i hi=>by
      rw[List.getElem?_map,ADr hi,List.getD_eq_getElem?_getD,ADr hi]
      rfl
     refine LU (some l) ss.length (fun i=>.str (ss.getD i "")) ss (fun i B g=>∃I:List Int,g l=some (.lst (I.map V.int))/\I.length<=XG.length/\Pt.CH B/\Pt.AJ B<=10*Ak.AJ (as.take i)/\Pt.AV B<=Ak.AV xs+2/\Pt.CC B<=61/\Ak.LP as B)
      (by lia) (fun D hD=>⟨XG,by rw[AK (fun z=>by rw[<-z,ZN]at hD;cases hD)];exact ZN,Nat.le_refl _,trivial,by simp[Pt.AJ],by simp[Pt.AV],by simp[Pt.CC],fun j x y _ h=>nomatch h⟩) (fun i B g D e J hD ⟨I,h1,h2⟩=>⟨I,by rw[AK (fun z=>by rw[<-z,ZN]at hD;cases hD)];exact h1,h2⟩)
      (fun l' z=>by cases z;rw[ZN];exact fun z=>nomatch z) (fun i B g hi s iv=>⟨_,_,Ap.of (nR s),li i hi⟩) (fun i B g v H' hi s iv y=>?_) (fun B g s iv=>⟨_,Ap.of (nR s),by rw[List.length_map];exact Nat.le_refl _⟩) (fun i B g R hi J ⟨I,e2,e3,e4,e5,e6,e7,lp⟩ lu k=>?_) (fun D g ts ws B hD J d2 lt lu tt vl ⟨I,e2,e3,e4,e5,e6,e7,lp⟩=>?_)
     ·obtain⟨e,y⟩:=y
      have:=y _ (Ap.of (nR s))
      rw[li i hi]at this
      exact⟨(ADt this).symm,e⟩
     ·have hk:ss[i]?=some (ss.getD i ""):=by rw[List.getD_eq_getElem?_getD,ADr hi];rfl
      obtain⟨ax,RC⟩:∃ax,as[i]?=some ax:=⟨_,ADr (by lia)⟩
      have e3':lk ks xs (ss.getD i "")=some ax:=by
       have:=congrArg (fun z=>z[i]?) jx
       simp only[List.getElem?_map,hk,RC]at this
       exact ADt this
      have w_:lk ks (Ak.Fh xs) (ss.getD i "")=some ax.pt:=by rw[Ak.BH,Fw,e3'];rfl
      rcases Val.EV Ph ra (ss.getD i "")with⟨x,tx,k1,k2,vx⟩|⟨_,k2⟩
      ·have e5':tx=ax.pt:=ADt (k2.symm.trans w_)
       subst e5'
       have m1:=wu.mem_iff.mp (ADu RC)
       have d1:=Ak.BC m1
       have z1:=Ak.Bj m1
       refine⟨_,rfl,_,rfl,U,_,1,_,rfl,rfl,nQ (bb.trans J),Ca,_,rfl,a,x,rfl,.inl ⟨kvs,Sum.inr (ss.getD i ""),cv (bb.trans J),rfl,k1.symm⟩,_,rfl,_,rfl,x,ax,l,nm,I,ys,rfl,vx.up (bb.trans J).Dk,Ak.GZ o7 _ m1,by lia,by lia,e2,by lia,nl,(eD.up iA).but J nl,fun v t ZM H4 aV T' wW v4 nO z4 p4 w4 l4=>⟨Ax,fun pt hpt=>k v t H4 pt aV v4 ⟨ZM,T',by lia,Pt.FC e4 ⟨nO,trivial⟩,?_,?_,by rw[Pt.EW];simp only[Pt.CC];lia,lp.snoc lu RC l4⟩ hpt⟩⟩
       ·rw[Pt.Am,List.take_add_one,RC,Ak.Am]
        simp only[Pt.AJ,Option.toList,Ak.AJ]
        lia
       ·rw[Pt.Bm]
        simp only[Pt.AV]
        lia
      ·exact absurd (k2.symm.trans w_) (fun z=>nomatch z)
     ·rw[<-mY,List.take_length,ES wu]at e5
      have lw:=vl.length
      have el:ss.length=ws.length:=by lia
      refine⟨D,ts,EH ss ws,rfl,Ap.of d2,by rw[FT el];lia,fun j k v e=>?_,by rw[FT el];lia,fun p5 UH=>?_⟩
      ·obtain⟨x,h1,h2,h3⟩:=Rj e
       obtain⟨t,ht⟩:∃t,ts[j]?=some t:=⟨_,ADr (by have:=(ADs h1).1;lia)⟩
       obtain⟨g2,g3⟩:=tt j t v ht h2
       refine⟨t,ht,?_⟩
       rw[g2,h3,List.getD_eq_getElem?_getD,h1]
       rfl
      rw[Hg el wz]
      have s4:=AG.new (o:=.dK (EH ss ws)) UH
      have f5:upd g p5 (.dK (EH ss ws)) p5=some (.dK (EH ss ws)):=AE
      have b13:=bb.trans J
      have b23:Bt (some l) Y g:=(Bt.of iA).trans J
      have d43:=b23.keep D4 _ (fun z=>by rw[<-ADt z,O]at hR;cases hR) d4
      have nU:Aa (nw H g) ws B:=vl.up (BX (fun b h=>hW.FQ b (iA.free h)) fun b e _ h=>h)
      have nV:Aa (nw H g) M js:=hU.up (BX (fun b h=>L.FQ b h) fun b e h1 h2=>b23.keep b e (fun z=>by rw[<-ADt z,O]at h1;cases h1) h2)
      have nW:H p5=none:=L.FQ p5 (b13.FQ p5 UH)
      generalize upd g p5 (.dK (EH ss ws))=H4 at s4 f5⊢
      have b14:Bt (some l) H1 H4:=b13.trans (.of s4)
      have T':=s4 _ _ e2
      refine⟨_,rfl,D4,_,rfl,.inl (Ap.of (s4 _ _ d43)),_,rfl,U,_,3,_,rfl,rfl,nQ b14,Aq (j:=3) rfl,.inr ⟨m,rfl,_,_,rfl,rfl,.inl ⟨by lia,by lia⟩,?_⟩⟩
      obtain⟨N,hN,hN3,hNm⟩:∃N:Nat,((M.length:Nat):Int)*(if m=true then 1 else 0)=(N:Int)/\N<=M.length/\(0<N->m=true):=by
       cases m with
       |true=>exact⟨M.length,by simp,Nat.le_refl _,fun _=>rfl⟩
       |false=>exact⟨0,by simp,Nat.zero_le _,fun z=>by lia⟩
      rw[hN]
      refine⟨N,rfl,by lia,by lia,Dn (lo:=0) (n:=N) (fun i σ Hi=>∃(XZ:List Str) (eG:List V) (ZO:List Pt) (o6 o7:Option V),σ=[some (.ref U),some (.ref l),some (.ref nm),some (.int c),some (.ref D4),some (.ref p5),o6,o7]/\(∀b,b≠p5->Hi b=H4 b)/\Hi p5=some (.dK (EH XZ eG))/\XZ.length=eG.length/\XZ.Nodup/\Aa (nw H g) eG ZO/\
        (∀k∈XZ,CB k=true)/\Pt.CH ZO/\(∀u∈ZO,u.deep<=Ak.AV xs+2/\u.wide<=61)/\Pt.AJ ZO<=10*Ak.AJ xs+4*i/\XZ.length<=ks.length+i/\Ak.LT ks xs ls m XZ ZO)
       ⟨ss,ws,B,none,none,rfl,fun b _=>rfl,f5,el,wz,nU,fun k hk=>o3 k (pm.mem_iff.mp hk),e4,fun u hu=>⟨Nat.le_trans (Pt.BC hu) e6,Nat.le_trans (Pt.LV hu) e7⟩,by lia,by lia,.of o1 o2 pm jx (by lia) lp o6⟩ ?_ ?_⟩
      ·rintro i σ Hi hi ⟨XZ,eG,ZO,o6',o7',rfl,NK,jy,l2,jz,Yp,j_,eH,iB,mr,ln2,ltI⟩
       have ne5:∀{b:Addr} {o:HO},H1 b=some o->b≠p5:=fun h z=>by rw[z,b13.FQ p5 UH]at h;cases h
       have nmi:Hi nm=some (.lst (ys.map V.str)):=by
        rw[NK nm (ne5 cu.at_)]
        exact(cu.but b14 nl).at_
       have ht4:=nQ b14
       have gh:BY K Hi U [.str "table",.ref a,.ref lz,.bl m]:=eE.imp (fun r=>r.up fun o e=>by
        have hb:U≠l:=fun z=>by unfold Dk at e;rw[if_pos z]at e;cases e
        rw[DM hb]at e
        rw[NK U (ne5 e)]
        exact b14.keep _ _ (fun z=>hb (ADt z).symm) e) id
       have hai:Rd Hi a (.dK kvs):=by
        rcases eF with h|⟨o,h⟩
        ·exact .inl (by rw[NK a (ne5 h)];exact b14.keep a _ (fun z=>al (ADt z).symm) h)
        ·exact .inr ⟨o,by rw[NK a (ne5 h)];exact b14.keep a _ (fun z=>al (ADt z).symm) h⟩
       have hzi:Rd Hi lz (.lst ju):=by
        rcases wh with h|⟨o,h⟩
        ·exact .inl (by rw[NK lz (ne5 h)];exact b14.keep lz _ (fun z=>zl (ADt z).symm) h)
        ·exact .inr ⟨o,by rw[NK lz (ne5 h)];exact b14.keep lz _ (fun z=>zl (ADt z).symm) h⟩
       have D45:D4≠p5:=fun z=>by rw[z,UH]at d43;cases d43
       have d4i:Hi D4=some (.lst M):=by rw[NK D4 D45];exact s4 _ _ d43
       refine⟨_,rfl,_,rfl,c,6,rfl,by decide,fun r6 _ _=>⟨_,rfl,_,_,rfl,rfl,_,_,rfl,rfl,(by show(0:Int)<_;decide),?_⟩⟩
       have m4:=Dx (r6+(0+(i:Int))) (n:=4) (by decide)
       obtain⟨jj,cb⟩:∃j:Nat,(r6+(0+(i:Int))) % 4=(j:Int):=⟨((r6+(0+(i:Int))) % 4).toNat,by lia⟩
       obtain⟨y,hy⟩:∃y,ys[jj]?=some y:=⟨_,ADr (by rw[hn.len];lia)⟩
       refine⟨nm,_,_,_,rfl,rfl,Ap.of nmi,by rw[cb];exact Aq (by rw[List.getElem?_map,hy];rfl),?_⟩
       dsimp only[Eo]
       have keep:∃(UA:List Str) (cx:List V) (XI:List Pt) (o6 o7:Option V),[some (V.ref U),some (V.ref l),some (V.ref nm),some (V.int c),some (V.ref D4),some (V.ref p5),some (V.int (0+(i:Int))),some (V.str y)]=[some (.ref U),some (.ref l),some (.ref nm),some (.int c),some (.ref D4),some (.ref p5),o6,o7]/\(∀b,b≠p5->Hi b=H4 b)/\Hi p5=some (.dK (EH UA cx))/\UA.length=cx.length/\UA.Nodup/\Aa (nw H g) cx XI/\
        (∀k∈UA,CB k=true)/\Pt.CH XI/\(∀u∈XI,u.deep<=Ak.AV xs+2/\u.wide<=61)/\Pt.AJ XI<=10*Ak.AJ xs+4*(i+1)/\UA.length<=ks.length+(i+1)/\Ak.LT ks xs ls m UA XI:=⟨XZ,eG,ZO,_,_,rfl,NK,jy,l2,jz,Yp,j_,eH,iB,by lia,by lia,ltI⟩
       refine⟨_,rfl,_,rfl,U,_,1,_,rfl,rfl,gh,Ca,a,_,rfl,.inl ⟨kvs,Sum.inr y,hai,rfl,rfl⟩,_,rfl,?_⟩
       refine Cr (fun tk=>?_) (fun _=>BJ keep)
       refine⟨_,rfl,_,rfl,U,_,2,_,rfl,rfl,gh,at2,lz,_,rfl,.inl (.inl hzi),rfl,?_,_,rfl,?_⟩
       ·rw[jv,List.all_map]
        exact List.all_eq_true.mpr fun _ _=>rfl
       refine Cr (fun tl=>?_) (fun _=>keep)
       obtain⟨v,hv⟩:∃v,M[i]?=some v:=⟨_,ADr (by lia)⟩
       obtain⟨t,ht,vt⟩:=nV.get hv
       have xA:=hV t (ADu ht)
       have e0:(0:Int)+(i:Int)=(i:Int):=by lia
       obtain⟨ks3,ws3,us3,g1,g2,g3,g4,g5,g6,g7,g8,_,g9,g10⟩:=YU (y:=y) vt l2 jz Yp
       refine⟨_,rfl,_,rfl,D4,_,_,_,rfl,rfl,Ap.of d4i,by rw[e0];exact Aq hv,_,rfl,_,rfl,p5,_,rfl,.inl ⟨_,Sum.inr y,jy,rfl,BV (by rw[FT l2];lia),rfl⟩,ks3,ws3,us3,_,_,rfl,fun b hb=>by rw[AK hb];exact NK b hb,by rw[AE,g1],g2,g3,g4,fun k hk=>?_,Pt.Ik fun u hu=>?_,fun u hu=>?_,by lia,by lia,ltI.put (hNm (by lia)) ?_ ?_ g5 g9 g10⟩
       ·rcases g5 k hk with h|rfl
        ·exact j_ k h
        ·exact hn.nb _ (ADu hy)
       ·rcases g6 u hu with h|rfl
        ·exact Pt.Ba eH u h
        ·exact xA.1
       ·rcases g6 u hu with h|rfl
        ·exact iB u h
        ·have:=Pt.EC _ xA.1
         exact⟨by lia,by lia⟩
       ·rw[OT Ph]at tk
        simpa using tk
       ·rw[jv]at tl
        simp only[GW]at tl
        simpa using tl
      ·rintro σ Hi ⟨XZ,eG,ZO,o6',o7',rfl,NK,jy,l2,jz,Yp,j_,eH,iB,mr,ln2,ltI⟩
       have lp5:l≠p5:=fun z=>by rw[<-z,e2]at UH;cases UH
       have gg:=Yp.length
       have dp3:=OW fun u hu=>(iB u hu).1
       have wd3:=OS fun u hu=>(iB u hu).2
       refine⟨_,rfl,q _ (.BF XZ ZO) I _ ⟨fun b e n h=>?_,fun b h=>?_⟩ (by rw[NK l lp5];exact T') (by lia) (.BF (.inl (by rw[Av nW];exact jy)) (CT l2) ?_) ?_ ?_ ?_ ?_ ?_⟩
       ·rw[NK b (fun z=>by rw[z,nW]at h;cases h)]
        exact(L.trans b14).keep b e n h
       ·by_cases hb:b=p5
        ·rw[hb];exact nW
        ·rw[NK b hb]at h
         exact(L.trans b14).FQ b h
       ·rw[EB l2]
        exact Yp.up (BX (fun b h=>h) fun b e h1 h2=>by
         have hb:b≠p5:=fun z=>by rw[z,UH]at h2;cases h2
         rw[NK b hb]
         exact s4 _ _ h2)
       ·simp only[Pt.doc]
        exact⟨by lia,jz,j_,by lia,eH⟩
       ·simp only[Pt.size,Ak.size];lia
       ·simp only[Pt.deep,Ak.deep];lia
       ·simp only[Pt.wide];lia
       ·exact ltI.lets o1 o2
theorem SV {f:Addr} {e:FuncData} (F:Ct K "_law_fit" "_law_fit" Qx f e) (T:Txt mg) (b:Binds K e ["_law_asks_here","_law_cells","_law_names_here"] []) (m:mg "_law_fit"=some (.ref f)) (c:Df P w K mg base "_law_mix" ["_law_cell_here","_law_k"] 1 Fo) (d:Df P w K mg base "_law_doc" ["_law_cell_here","_law_k","_law_names_here"] 2 Hh) (a:Df P w K mg base "_law_copy" ["_law_thing"] 6 (Dd 6)):∀n:Nat,BG P w K mg base CW n f e ["_law_asks_here","_law_cells","_law_names_here"] (KO n)
 |0=>JQ (fun vs H Q E h=>by obtain⟨_,_,_,_,_,_,_,_,_,g,_⟩:=h;omega)
 |n+1=>cn F T c d a (Df.mk' F b m (SV F T b m c d a n))
end
end By
namespace By
open PySem L2
section
variable{P:Program} {w:World} {K:ADv} [Ar K] {mg:Str->Option Value} {base:Heap}
theorem XJ:Ah ["_law_asks_here","_law_doc_here","_law_others"] ["_law_asks_here","_law_doc_here"] (AI KS):=⟨rfl,rfl,rfl,by decide+kernel,rfl,by decide+kernel,by decide+kernel⟩
theorem ZP {n:Nat} {f:Addr} {fd:FuncData} (F:Ct K "_law_lets" "_law_lets" KS f fd) (T:Txt mg) (XM:Df P w K mg base "_law_lets" ["_law_asks_here","_law_doc_here"] n (FZ n)):BG P w K mg base CW (n+1) f fd ["_law_asks_here","_law_doc_here"] (FZ (n+1)):=by
 obtain⟨iC,iD,Ly,Lz,L_,L'⟩:=XM.ex
 refine F.ok XJ (fun vs H Q E h=>?_) (fun IV A outer s H vs Q E hr h=>?_)
 ·obtain⟨v,y,a0,t,rfl,hv,hy,O,Z,za,zt,iE,aY,q⟩:=h
  rfl
 ·obtain⟨v,y,a0,t,rfl,hv,hy,O,Z,za,zt,iE,aY,q⟩:=h
  have nd:=XJ.nd
  have hu:=BU hr
  have X:Al n _:=hr.mono (by first|decide|omega)
  refine⟨_,(AF (Ai (AR Bl (AO (r:=Aw K) AU (pv 0) AD (fun _ _=>rfl)) Ag (AZ _)) (AH (AN Cg)) AQ)
   (AF (Ai (AR Bl (AO (r:=Aw K) AU (pv 0) AD (fun _ _=>rfl)) Ag (AZ _)) (AH (AN (DU (WS (Al.units hr):DC _ _ Yg) (AO (r:=Aw K) AU (pv 0) AD (fun _ _=>rfl)) (pv 1) (AZ _)))) AQ)
   (AF (Ai (AR Bl (AO (r:=Aw K) AU (pv 0) AD (fun _ _=>rfl)) Ag (AZ _)) (AF (Ai (PW.pt (pw_or (DA (BA (AM (BB:BD _ _ (CO K)) rfl T.isinstance AW (AA (pv 1) (AA (Az (v:=.ty "list") rfl T.list Bv rfl) AB))))) (pw_or (AR Iy (AM Ad rfl T.len PySem.boot_len (AA (pv 1) AB)) (AM Ad rfl T.len PySem.boot_len (AA (AO (r:=Aw K) AU (pv 0) AD (fun _ _=>rfl)) AB)) (AZ _)) (pw_or1 (PW.pt (pw_and (DA (BA (AO (r:=Aw K) AU (pv 0) AD (fun _ _=>rfl)))) (pw_and1 (AR UY (AM Ad rfl T.len PySem.boot_len (AA (pv 1) AB)) (AM Ad rfl T.len PySem.boot_len (AA (AO (r:=Aw K) AU (pv 0) AD (fun _ _=>rfl)) AB)) (AZ _))))))))) (AH (AN Cg)) AQ)
   (AH (AN (AM (JJ rfl) rfl T.all VG (AA (Bb (fv:=["_law_doc_here","_law_asks_here"]) (fs:=[1,0]) rfl (.of (by rfl)) (Bc rfl T.range (AA (AM Ad rfl T.len PySem.boot_len (AA (AO (r:=Aw K) AU (pv 0) AD (fun _ _=>rfl)) AB)) AB)) (fun _ _ _ _=>Bi) (fun C s0 H0 fp=>(AL L' X rfl L_ Ly Lz .nil AX (AA (AO (r:=B' K) As (AO (r:=Aw K) AU (pv 2) AD (fun _ _=>rfl)) (pv 0) (fun _ _=>rfl)) (AA (AO (r:=B' K) As (pv 1) (pv 0) (fun _ _=>rfl)) AB))))) AB))))) AQ)
   (AF (Ai (DA (BA (AM (BB:BD _ _ (CO K)) rfl T.isinstance AW (AA (pv 1) (AA (Az (v:=.ty "dict") rfl T.dict Co rfl) AB))))) (AH (AN Cg)) AQ)
   (AF (Rh (EN (i:=2) (fv:=["_law_asks_here"]) (fs:=[0]) rfl (.of (by rfl)) nd rfl (Or.inl rfl) (Ih (pv 1)) (fun C s0 H0 fp=>GP (Pn (LI hu (pv 0) (AO (r:=Aw K) AU (pv 1) AD (fun _ _=>rfl))))) (fun C s0 H0 fp=>(pv 0))))
   (AF (Ai (PW.pt (pw_or (AR Iy (AS G_ (AM LL rfl T.len PySem.boot_len (AA (pv 1) AB)) (AM Ad rfl T.len PySem.boot_len (AA (pv 2) AB))) (AM LL rfl T.len PySem.boot_len (AA (AO (r:=Aw K) AU (pv 0) AD (fun _ _=>rfl)) AB)) (AZ _)) (pw_or1 (PW.pt (pw_and (DA (BA (AO (r:=Aw K) AU (pv 0) AD (fun _ _=>rfl)))) (pw_and1 (AR (HR (Al.Es hr)) (pv 2) (A_ AB) (AZ _)))))))) (AH (AN Cg)) AQ)
   (AF (Ai (AR (HR (Al.Es hr)) (Bb (fv:=["_law_asks_here"]) (fs:=[0]) rfl (.of (by rfl)) (Bk (pv 2)) (fun C s0 H0 fp=>GP (AR (LB:DC _ _ (df K false)) (pv 0) (AO (r:=Aw K) AU (pv 1) AD (fun _ _=>rfl)) rfl)) (fun C s0 H0 fp=>(pv 0))) (A_ AB) (AZ _)) (AH (AN Cg)) AQ)
   (AH (AN (AM (JJ rfl) rfl T.all VG (AA (Rg (Bb (fv:=["_law_doc_here","_law_asks_here"]) (fs:=[1,0]) rfl (.of (by rfl)) (Ih (AO (r:=Aw K) AU (pv 0) AD (fun _ _=>rfl))) (fun _ _ _ _=>Bi) (fun C s0 H0 fp=>(AL L' X rfl L_ Ly Lz .nil AX (AA (Bx hu (AO (r:=Aw K) AU (pv 2) AD (fun _ _=>rfl)) (pv 0) (fun _ _=>rfl)) (AA (Bx hu (pv 1) (pv 0) (fun _ _=>rfl)) AB)))))) AB))))))))))),?_⟩
  obtain⟨L,w0,rest,rfl,M,cs⟩:=hv.ak
  rcases cs with⟨rfl,rfl,rfl⟩|⟨d,u,rfl,rfl,rfl,XH⟩|⟨g,m,u,rfl,rfl,rfl,XH⟩|⟨G,g,ls,m,u,z,rfl,rfl,rfl,XH,hz⟩
  ·exact⟨_,rfl,L,_,0,_,rfl,rfl,M,Cw,rfl,_,rfl,BK (by decide+kernel) (by simp only[Ak.lets]at q;exact q H (AG.refl H))⟩
  ·refine⟨_,rfl,L,_,0,_,rfl,rfl,M,Cw,rfl,_,rfl,Aj (by decide+kernel) ?_⟩
   refine⟨_,rfl,L,_,0,_,rfl,rfl,M,Cw,rfl,_,rfl,BK (by decide+kernel) ?_⟩
   simp only[Ak.Br]at O
   simp only[Ak.dp]at iE
   simp only[Ak.lets]at q
   exact⟨_,rfl,L,_,1,u,rfl,rfl,M,Ca,_,rfl,d,t,XH,hy,(fun b e=>by rw[e]at O;simp[Pt.doc]at O),.inl ⟨O,Z⟩,iE,q H (AG.refl H)⟩
  ·refine⟨_,rfl,L,_,0,_,rfl,rfl,M,Cw,rfl,_,rfl,Aj (by decide+kernel) ?_⟩
   refine⟨_,rfl,L,_,0,_,rfl,rfl,M,Cw,rfl,_,rfl,Aj (by decide+kernel) ?_⟩
   refine⟨_,rfl,L,_,0,_,rfl,rfl,M,Cw,rfl,_,rfl,BK (by decide+kernel) ?_⟩
   refine⟨_,rfl,_,"list",t.XX,rfl,rfl,hy.ty,_,rfl,?_⟩
   simp only[Ak.Br]at O
   simp only[Ak.deep]at aY
   simp only[Ak.dp]at iE
   simp only[Ak.size]at za
   cases XH with
   |@lst a vs _ ha ra=>
    have la:=ra.length
    rw[Ak.BH,List.length_map]at la
    have we:=Ak.CV g
    cases hy with
    |@lst b ws B hb rb=>
     have lb:=rb.length
     simp only[Pt.doc]at Z
     simp only[Pt.size]at zt
     simp only[Ak.lets]at q
     refine BJ ⟨_,rfl,b,_,rfl,.inl (.inl hb),_,rfl,L,_,1,_,rfl,rfl,M,Ca,a,_,rfl,.inl (.inl ha),_,_,rfl,rfl,_,rfl,?_⟩
     refine Cr (fun h1=>?_) (fun h1=>?_)
     ·have h1:=of_decide_eq_true h1
      have e:Ak.cnt B.length g.length m=false:=by
       have e1:(B.length==g.length)=false:=by simp;lia
       have S:decide (g.length<B.length)=false:=by simp;lia
       simp[Ak.cnt,e1,S]
      rw[e,Bool.false_and]at q
      exact Bs (q H (AG.refl H))
     have h1:=of_decide_eq_false h1
     have key:(Ak.cnt B.length g.length m=true->eV
         (jX (JI K)
          (Ky
           (Uv
            (Zk
             (Ky
              (jX (Eu K) (Ky (Xf (Aw K) (Pm 0) (tC (V.int 1))) Ub))
              Ub))
            QH
            (Uc (FZ n) [] E0
             (Ky (Xf (B' K) (Xf (Aw K) (Pm 2) (tC (V.int 1))) (Pm 0))
              (Ky (Xf (B' K) (Pm 1) (Pm 0)) Ub)))
            [1,0])
           Ub)) {nx:=fun x H'=>Q V.BO H',rt:=Q} [some (V.ref L),some (V.ref b),none] H):=fun hc=>by
      rw[hc,Bool.true_and]at q
      refine⟨_,rfl,L,_,1,_,rfl,rfl,M,Ca,a,_,rfl,.inl (.inl ha),vs.length,rfl,by lia,by lia,?_⟩
      refine CQ (n:=vs.length) (fun i=>.int (0+(i:Int))) (fun i v=>∃p,(g.zip B)[i]?=some p/\v=.bl (Ak.lets p.1 p.2)) (Ab (by lia)) (fun i H2 I N=>I) (fun i H2 v H' I N y=>⟨y.2,y.1⟩) (fun H2 N=>Nat.le_refl _) (fun i H2 R I N r=>?_) (fun D H2 rs hD N d2 lr or=>?_)
      ·have e0:(0:Int)+(i:Int)=(i:Int):=by lia
       rw[e0]
       obtain⟨x,hx⟩:∃x,vs[i]?=some x:=⟨_,ADr I⟩
       obtain⟨y,hy⟩:∃y,ws[i]?=some y:=⟨_,ADr (by lia)⟩
       obtain⟨px,g1,vx⟩:=ra.get hx
       obtain⟨py,g2,vy⟩:=rb.get hy
       rw[Ak.BH,List.getElem?_map]at g1
       obtain⟨ax,U⟩:∃ax,g[i]?=some ax:=⟨_,ADr (by lia)⟩
       rw[U]at g1
       cases g1
       have m1:=ADu U
       have m2:=ADu g2
       have d1:=Ak.BC m1;have d6:=Ak.Gh m1
       have z1:=Ak.Bj m1
       have z2:=Pt.Bj m2
       refine⟨_,rfl,L,_,1,_,rfl,rfl,M.up N,Ca,_,rfl,a,_,_,x,rfl,rfl,.inl (ha.up (N _)),Aq hx,_,rfl,_,rfl,b,_,_,y,rfl,rfl,.inl (hb.up (N _)),Aq hy,x,y,ax,py,rfl,vx.up N,vy.up N,Ak.Bg O _ m1,Pt.Ba Z _ m2,by lia,by lia,by lia,by lia,fun H3 s3=>r _ H3 s3 ⟨(ax,py),?_,rfl⟩⟩
       rw[List.getElem?_zip_eq_some]
       exact⟨U,g2⟩
      ·have lz:(g.zip B).length=g.length:=by rw[List.length_zip];lia
       have e:=Rk (ps:=g.zip B) (f:=fun p=>Ak.lets p.1 p.2) (vs:=rs) (by lia) or
       rw[e]at d2
       refine⟨D,_,rfl,Ap.of d2,?_⟩
       have S:((g.zip B).map fun p=>Ak.lets p.1 p.2).all id=Ak.FA g B:=by rw[Ak.LS,List.all_map];rfl
       rw[S]
       exact q H2 N
     refine⟨_,rfl,L,_,2,_,rfl,rfl,M,at2,_,rfl,?_⟩
     cases m with
     |true=>
      refine BJ (BJ (key ?_))
      have:g.length<=B.length:=by lia
      rw[show Ak.cnt B.length g.length true=(B.length==g.length||decide (g.length<B.length))from rfl]
      rcases Nat.lt_or_ge g.length B.length with h|h
      ·simp[h]
      ·have:B.length=g.length:=by lia
       simp[this]
     |false=>
      refine Bs ⟨_,rfl,b,_,rfl,.inl (.inl hb),_,rfl,L,_,1,_,rfl,rfl,M,Ca,a,_,rfl,.inl (.inl ha),_,_,rfl,rfl,_,rfl,?_⟩
      refine Cr (fun h2=>?_) (fun h2=>?_)
      ·have h2:=of_decide_eq_true h2
       have e:Ak.cnt B.length g.length false=false:=by
        have e1:(B.length==g.length)=false:=by simp;lia
        simp[Ak.cnt,e1]
       rw[e,Bool.false_and]at q
       exact q H (AG.refl H)
      ·have h2:=of_decide_eq_false h2
       refine key ?_
       have:B.length=g.length:=by lia
       simp[Ak.cnt,this]
    |int i=>exact Bs (Bs (q H (AG.refl H)))
    |str i=>exact Bs (Bs (q H (AG.refl H)))
    |bl b=>simp[Pt.doc]at Z
    |tup _ _=>simp[Pt.doc]at Z
    |BF _ _ _=>exact Bs (Bs (q H (AG.refl H)))
  ·refine⟨_,rfl,L,_,0,_,rfl,rfl,M,Cw,rfl,_,rfl,Aj (by decide+kernel) ?_⟩
   refine⟨_,rfl,L,_,0,_,rfl,rfl,M,Cw,rfl,_,rfl,Aj (by decide+kernel) ?_⟩
   refine⟨_,rfl,L,_,0,_,rfl,rfl,M,Cw,rfl,_,rfl,Aj (by decide+kernel) ?_⟩
   refine⟨_,rfl,_,"dict",t.XX,rfl,rfl,hy.ty,_,rfl,?_⟩
   simp only[Ak.Br]at O
   simp only[Ak.deep]at aY
   simp only[Ak.dp]at iE
   simp only[Ak.size]at za
   obtain⟨o1,o2,o3,o4,o5,o6,o7⟩:=O
   cases hy with
   |int i=>exact Bs (q H (AG.refl H))
   |str i=>exact Bs (q H (AG.refl H))
   |bl b=>simp[Pt.doc]at Z
   |tup _ _=>simp[Pt.doc]at Z
   |lst _ _=>exact Bs (q H (AG.refl H))
   |@BF b de Y B hb dz rb=>
    refine BJ ?_
    cases XH with
    |@BF a kvs _ _ ha Ph ra=>
     cases hz with
     |@lst l vl _ hl rl=>
      have kl:kvs.length=G.length:=by have:=congrArg List.length Ph;simpa using this
      have nX:de.length=Y.length:=by have:=congrArg List.length dz;simpa using this
      simp only[Pt.doc]at Z
      simp only[Pt.size]at zt
      simp only[Ak.lets]at q
      rw[Vx m o2 Z.2.1 o6]at q
      have jv:vl=ls.map V.str:=by
       have gen:∀{vs:List V} {ls:List Str},Aa H vs (ls.map Pt.str)->vs=ls.map V.str:=by
        intro vs ls
        induction ls generalizing vs with
        |nil=>intro h;cases h;rfl
        |cons x r ih=>
         intro h
         cases h with
         |cons h1 h2=>cases h1;rw[List.map_cons,ih h2]
       exact gen rl
      subst jv
      refine⟨b,de,hb,fun o Hf F=>⟨_,rfl,b,o,_,rfl,F.at_,?_⟩⟩
      refine Cv (n:=Y.length) (fun i=>.str (Y.getD i "")) (fun i=>.str (Y.getD i "")) (fun i=> !decide (Y.getD i ""∈G)) (Ab (by lia)) (fun i D B I hD=>⟨by rw[AK (Ac F.at_ hD)];exact F.at_,by rw[nX];exact I⟩) (fun i D B v H' I hD y=>?_)
       (fun D B hD=>⟨by rw[AK (Ac F.at_ hD)];exact F.at_,nX.symm⟩) (fun i D B R I hD r=>?_) (fun i D B R I hD _ r=>⟨_,rfl,r⟩) (fun D hD=>?_)
      ·obtain⟨e,k,w',e1,S⟩:=y
       rw[(QX dz e1).2]at S
       exact⟨S,e⟩
      ·have mC:Rd (upd Hf D (.lst B)) a (.dK kvs):=(F.rd _ _ ha).up fun o e=>by rw[AK (Ac e hD)];exact e
       have htf:=(M.OP (OO.CK F)).up (AG.new (o:=.lst B) hD)
       refine⟨_,rfl,_,rfl,L,_,1,_,rfl,rfl,htf,Ca,a,_,rfl,.inl ⟨kvs,Sum.inr (Y.getD i ""),mC,rfl,rfl⟩,_,rfl,?_⟩
       rw[OT Ph]
       exact r
      ·have hD0:=F.free hD
       refine⟨by rw[AK (Ac F.at_ hD)];exact F.at_,?_⟩
       rw[FU Y fun n=> !decide (n∈G)]
       obtain⟨os,nY⟩:∃os,os=Y.filter fun n=> !decide (n∈G):=⟨_,rfl⟩
       rw[<-nY]at q⊢
       have los:os.length<=Y.length:=by rw[nY];exact List.length_filter_le _ _
       have s1:AG H (back b H (upd Hf D (.lst (os.map V.str)))):=F.back (AG.new hD)
       have fD:back b H (upd Hf D (.lst (os.map V.str))) D=some (.lst (os.map V.str)):=by rw[FO hD0.2,AE]
       generalize back b H (upd Hf D (.lst (os.map V.str)))=H1 at s1 fD⊢
       have gs:=M.up s1
       have hb1:=hb.up (s1 _)
       have eF:=ha.up (s1 _)
       dsimp only
       refine VP (t:=Pq _ _ _) (fun H5=>AG H1 H5/\(decide (((Y.length:Nat):Int)-((os.length:Nat):Int)<((G.length:Nat):Int)))=false/\(m||os.isEmpty)=true) (fun H5 ⟨s5,c1,c2⟩=>?_) (fun key=>?_)
       rotate_left
       ·refine⟨_,rfl,b,de,rfl,hb1,_,rfl,D,_,rfl,.inl (Ap.of fD),_,_,rfl,rfl,_,rfl,L,_,1,_,rfl,rfl,gs,Ca,a,kvs,rfl,eF,_,_,rfl,rfl,_,rfl,?_⟩
        rw[nX,kl,List.length_map]
        refine Cr (fun h1=>?_) (fun h1=>?_)
        ·rw[h1,Bool.not_true,Bool.false_and,Bool.false_and,Bool.false_and]at q
         exact Bs (q H1 s1)
        refine⟨_,rfl,L,_,3,_,rfl,rfl,gs,Aq (j:=3) rfl,_,rfl,?_⟩
        cases m with
        |true=>exact BJ (BJ (key H1 ⟨AG.refl _,h1,rfl⟩))
        |false=>
         refine Bs ⟨_,rfl,Nat.zero_le _,fun pe XB=>⟨D,pe,_,rfl,rfl,Ap.of ((AG.new XB) _ _ fD),Ap.of AE,_,rfl,?_⟩⟩
         have se:=AG.new (o:=.lst []) XB
         cases os with
         |nil=>exact BJ (key _ ⟨se,h1,rfl⟩)
         |cons x r=>
          rw[h1]at q
          exact Bs (q _ (s1.trans se))
       ·have s05:=s1.trans s5
        rw[c1,c2,Bool.not_false,Bool.true_and,Bool.true_and]at q
        have nZ:=s5 _ _ fD
        have kA:=M.up s05
        have cm:=hl.up (s05 _)
        have li:∀i,i<os.length->(os.map V.str)[i]?=some (.str (os.getD i "")):=fun i I=>by
         rw[List.getElem?_map,ADr I,List.getD_eq_getElem?_getD,ADr I]
         rfl
        have hC:∀{D2:Addr} {zs:List V},H5 D2=none->upd H5 D2 (.lst zs) D=some (.lst (os.map V.str)):=fun h=>by rw[AK (Ac nZ h)];exact nZ
        refine⟨_,rfl,D,rfl,⟨_,Ap.of nZ⟩,?_⟩
        refine Cv (n:=os.length) (fun i=>.str (os.getD i "")) (fun i=>.str (os.getD i "")) (fun i=>decide (os.getD i ""∈ls)) (Ab (by lia)) (fun i D2 zs I J=>⟨_,_,Ap.of (hC J),li i I⟩) (fun i D2 zs v H' I J y=>?_)
         (fun D2 zs J=>⟨_,Ap.of (hC J),by rw[List.length_map];exact Nat.le_refl _⟩) (fun i D2 zs R I J r=>?_) (fun i D2 zs R I J _ r=>⟨_,rfl,r⟩) (fun D2 J=>?_)
        ·obtain⟨e,y⟩:=y
         have:=y _ (Ap.of (hC J))
         rw[li i I]at this
         exact⟨(ADt this).symm,e⟩
        ·have hl6:Rd (upd H5 D2 (.lst zs)) l (.lst (ls.map V.str)):=cm.up fun o e=>by rw[AK (Ac e J)];exact e
         refine⟨_,rfl,_,rfl,L,_,2,_,rfl,rfl,kA.up (AG.new (o:=.lst zs) J),at2,l,_,rfl,.inl (.inl hl6),rfl,?_,_,rfl,?_⟩
         ·rw[List.all_map]
          exact List.all_eq_true.mpr fun _ _=>rfl
         ·rw[GW]
          exact r
        ·rw[FU os fun n=>decide (n∈ls)]
         obtain⟨us,hus⟩:∃us,us=os.filter fun n=>decide (n∈ls):=⟨_,rfl⟩
         rw[<-hus]at q⊢
         have s6:=s05.trans (AG.new (o:=.lst (us.map V.str)) J)
         have f6:upd H5 D2 (.lst (us.map V.str)) D2=some (.lst (us.map V.str)):=AE
         generalize upd H5 D2 (.lst (us.map V.str))=H6 at s6 f6⊢
         refine⟨Nat.zero_le _,fun pe XB=>⟨D2,pe,_,rfl,rfl,Ap.of ((AG.new XB) _ _ f6),Ap.of AE,_,rfl,?_⟩⟩
         have s7:=s6.trans (AG.new (o:=.lst []) XB)
         generalize upd H6 pe (.lst [])=H7 at s7⊢
         cases us with
         |cons x r=>exact Bs (q H7 s7)
         |nil=>
          refine BJ ?_
          simp only[List.isEmpty_nil,Bool.true_and]at q
          have nc:∀k∈G,k∈Y:=by
           have c:=cntK o2 Z.2.1
           rw[<-nY]at c
           have c1:=of_decide_eq_false c1
           have le:(G.filter fun k=>decide (k∈Y)).length<=G.length:=List.length_filter_le _ _
           have:=List.length_filter_eq_length_iff.mp (show(G.filter fun k=>decide (k∈Y)).length=G.length by lia)
           exact fun k hk=>of_decide_eq_true (this k hk)
          obtain⟨bs,S⟩:=Hd Z.1 (ss:=G) nc
          rw[Ak.Fv,Vu _ o1 o2 (.refl _) (Ga o1 o2) S]at q
          have lbs:bs.length=G.length:=by have:=congrArg List.length S;simpa using this.symm
          have ht7:=M.up s7
          have ha7:=ha.up (s7 _)
          refine⟨a,kvs,ha7,fun o2' Hf2 F2=>⟨_,rfl,L,_,1,.ref a,rfl,rfl,ht7.OP (OO.CK F2),Ca,a,o2',_,rfl,F2.at_,?_⟩⟩
          refine CQ (n:=G.length) (fun i=>.str (G.getD i "")) (fun i v=>∃p,(g.zip bs)[i]?=some p/\v=.bl (Ak.lets p.1 p.2)) (Ab (by lia)) (fun i H2 I N=>⟨N _ _ F2.at_,by lia⟩) (fun i H2 v H' I N y=>?_) (fun H2 N=>⟨N _ _ F2.at_,by lia⟩) (fun i H2 R I N r=>?_) (fun D3 H2 rs mu N d2 lr or=>?_)
          ·obtain⟨e,k,w',e1,S⟩:=y
           rw[(QX Ph e1).2]at S
           exact⟨S,e⟩
          ·have kp:OO H H2:=((OO.of s7).trans (OO.CK F2)).trans (.of N)
           obtain⟨x,px,g1,g2,g3⟩:=QY Ph ra o2 I
           obtain⟨ax,U⟩:∃ax,g[i]?=some ax:=⟨_,ADr (by lia)⟩
           rw[Ak.BH,List.getElem?_map,U]at g2
           cases g2
           have hk:G[i]?=some (G.getD i ""):=by rw[List.getD_eq_getElem?_getD,ADr I];rfl
           have mk:G.getD i ""∈G:=ADu hk
           obtain⟨pb,xB⟩:∃pb,bs[i]?=some pb:=⟨_,ADr (by lia)⟩
           have e3:lk Y B (G.getD i "")=some pb:=by
            have:=congrArg (fun z=>z[i]?) S
            simp only[List.getElem?_map,hk,xB]at this
            exact ADt this
           rcases Val.EV dz rb (G.getD i "")with⟨y,ty,k1,k2,vy⟩|⟨_,k2⟩
           ·have e4:ty=pb:=ADt (k2.symm.trans e3)
            subst e4
            have m1:=ADu U
            have m2:=(CM e3).2
            have d1:=Ak.BC m1;have d6:=Ak.Gh m1
            have z1:=Ak.Bj m1
            have z2:=Pt.Bj m2
            refine⟨_,rfl,L,_,1,_,rfl,rfl,M.OP kp,Ca,_,rfl,a,x,rfl,.inl ⟨kvs,Sum.inr (G.getD i ""),kp.rd _ _ ha,rfl,g1.symm⟩,_,rfl,_,rfl,b,y,rfl,.inl ⟨de,Sum.inr (G.getD i ""),kp.rd _ _ hb,rfl,k1.symm⟩,x,y,ax,ty,rfl,g3.OP kp,vy.OP kp,Ak.Bg o7 _ m1,Pt.Ba Z.2.2.2.2 _ m2,by lia,by lia,by lia,by lia,fun H3 s3=>r _ H3 s3 ⟨(ax,ty),?_,rfl⟩⟩
            rw[List.getElem?_zip_eq_some]
            exact⟨U,xB⟩
           ·exact absurd (k2.symm.trans e3) (fun z=>nomatch z)
          ·refine⟨N _ _ F2.at_,?_⟩
           have lz:(g.zip bs).length=G.length:=by rw[List.length_zip];lia
           have e:=Rk (ps:=g.zip bs) (f:=fun p=>Ak.lets p.1 p.2) (vs:=rs) (by lia) or
           rw[e]at d2
           have Da:D3≠a:=(F2.free mu).2
           have sb:=s7.trans (F2.back N)
           have d3:back a H7 H2 D3=some (.lst (((g.zip bs).map fun p=>Ak.lets p.1 p.2).map V.bl)):=by rw[FO Da];exact d2
           refine⟨D3,_,rfl,Ap.of d3,?_⟩
           have S:((g.zip bs).map fun p=>Ak.lets p.1 p.2).all id=(g.zip bs).all fun p=>Ak.lets p.1 p.2:=by rw[List.all_map];rfl
           rw[S]
           exact q _ sb
theorem Pa {f:Addr} {c:FuncData} (F:Ct K "_law_lets" "_law_lets" KS f c) (T:Txt mg) (b:Binds K c ["_law_asks_here","_law_doc_here"] []) (m:mg "_law_lets"=some (.ref f)):∀n:Nat,BG P w K mg base CW n f c ["_law_asks_here","_law_doc_here"] (FZ n)
 |0=>JQ (fun vs H Q E h=>by obtain⟨_,_,a,_,_,_,_,_,_,_,_,_,d,_⟩:=h;have:=Ak.D' a;omega)
 |n+1=>ZP F T (Df.mk' F b m (Pa F T b m n))
end
end By
namespace By
open PySem L2
section
variable{P:Program} {w:World} {K:ADv} [Ar K] {mg:Str->Option Value} {base:Heap}
theorem Pb:Ah ["_law_asks_here","_law_inner"] ["_law_asks_here"] (AI Ee):=⟨rfl,rfl,rfl,by decide+kernel,rfl,by decide+kernel,by decide+kernel⟩
theorem UB {n:Nat} {f:Addr} {fd:FuncData} (F:Ct K "_law_is_good" "_law_is_good" Ee f fd) (T:Txt mg) (X:Df P w K mg base "_law_is_good" ["_law_asks_here"] n (FH n)) (cy:mg "set"=none):BG P w K mg base CW (n+1) f fd ["_law_asks_here"] (FH (n+1)):=by
 obtain⟨ZQ,ZR,Y,Z,NI,NJ⟩:=X.ex
 refine F.ok Pb (fun d H Q E h=>?_) (fun IV A outer s H d Q E hr h=>?_)
 ·obtain⟨G,v,a0,rfl,pl,xC,BS,hg,aY,za,q⟩:=h
  rfl
 ·obtain⟨G,v,a0,rfl,pl,xC,BS,hg,aY,za,q⟩:=h
  have nd:=Pb.nd
  have hu:=BU hr
  have O:Al n _:=hr.mono (by first|decide|omega)
  refine⟨_,(AF (Ai (PW.pt (pw_or (DA (BA (AM (BB:BD _ _ (CO K)) rfl T.isinstance AW (AA (pv 0) (AA (Az (v:=.ty "tuple") rfl T.tuple Ig rfl) AB))))) (pw_or1 (AR (WU (Al.units hr):DC _ _ (Tp K)) (pv 0) (BL AB) (AZ _))))) (AH (AN Cg)) AQ)
   (AF (Ai (AR (WU (Al.units hr):DC _ _ (Tp K)) (pv 0) (BL (AA Ag AB)) (AZ _)) (AH (AN Cg)) AQ)
   (AF (Ai (AR Bl (AO (r:=Aw K) AU (pv 0) AD (fun _ _=>rfl)) Ag (AZ _)) (AH (AN (DU Bl (AM Ad rfl T.len PySem.boot_len (AA (pv 0) AB)) AD (AZ _)))) AQ)
   (AF (Ai (PW.pt (pw_and (AR Bl (AO (r:=Aw K) AU (pv 0) AD (fun _ _=>rfl)) Ag (AZ _)) (pw_and (AR Bl (AM Ad rfl T.len PySem.boot_len (AA (pv 0) AB)) AD (AZ _)) (pw_and (BA (AM (BB:BD _ _ (CO K)) rfl T.isinstance AW (AA (AO (r:=Aw K) AU (pv 0) AD (fun _ _=>rfl)) (AA (Az (v:=.ty "list") rfl T.list Bv rfl) AB)))) (pw_and1 (BA (AM (BB:BD _ _ (CO K)) rfl T.isinstance AW (AA (AO (r:=Aw K) AU (pv 0) AD (fun _ _=>rfl)) (AA (Az (v:=.ty "bool") rfl T.bool VF rfl) AB))))))))) (AH (AY (i:=1) nd rfl (Or.inl rfl) (AO (r:=Aw K) AU (pv 0) AD (fun _ _=>rfl)))) (AH (Ai (PW.pt (pw_and (AR Bl (AO (r:=Aw K) AU (pv 0) AD (fun _ _=>rfl)) Ag (AZ _)) (pw_and (AR Bl (AM Ad rfl T.len PySem.boot_len (AA (pv 0) AB)) AD (AZ _)) (pw_and (BA (AM (BB:BD _ _ (CO K)) rfl T.isinstance AW (AA (AO (r:=Aw K) AU (pv 0) AD (fun _ _=>rfl)) (AA (Az (v:=.ty "dict") rfl T.dict Co rfl) AB)))) (pw_and1 (BA (AM (BB:BD _ _ (CO K)) rfl T.isinstance AW (AA (AO (r:=Aw K) AU (pv 0) AD (fun _ _=>rfl)) (AA (Az (v:=.ty "bool") rfl T.bool VF rfl) AB))))))))) (AF (AY (i:=1) nd rfl (Or.inl rfl) (Bd (Ia rfl) rfl T.list Bv (AA (Uk PySem.F.plainAttrs_dict PySem.F.slot_dict_values PySem.F.type_dict_values Qs (AO (r:=Aw K) AU (pv 0) AD (fun _ _=>rfl))) AB)))
   (AF (Ai (PW.pt (pw_or (DA (BA (AM (BB:BD _ _ (CO K)) rfl T.isinstance AW (AA (AO (r:=Aw K) AU (pv 0) AD (fun _ _=>rfl)) (AA (Az (v:=.ty "list") rfl T.list Bv rfl) AB))))) (pw_or (AR (bZ (Al.Es hr)) (AM (Mr rfl:BD _ _ (Qp P w)) rfl T.sorted Ey (AA (Bd (Tj rfl:BD _ _ (WL K P w)) rfl cy gO (AA (AO (r:=Aw K) AU (pv 0) AD (fun _ _=>rfl)) AB)) AB)) (AO (r:=Aw K) AU (pv 0) AD (fun _ _=>rfl)) (AZ _)) (pw_or1 (PW.pt (pw_and (AR (HR (Al.Es hr)) (AO (r:=Aw K) AU (pv 0) AD (fun _ _=>rfl)) (A_ AB) (AZ _)) (pw_and1 (DA (BA (AO (r:=Aw K) AU (pv 0) AD (fun _ _=>rfl))))))))))) (AH (AN Cg)) AQ)
   (AH (Ai (AR (HR (Al.Es hr)) (Bb (fv:=["_law_asks_here"]) (fs:=[0]) rfl (.of (by rfl)) (Bk (AO (r:=Aw K) AU (pv 0) AD (fun _ _=>rfl))) (fun C s0 H0 fp=>GP (Pn (Up hu (pv 0) (AO (r:=Aw K) AU (pv 1) AD (fun _ _=>rfl))))) (fun C s0 H0 fp=>(pv 0))) (A_ AB) (AZ _)) (AH (AN Cg)) AQ)))) (AH (AN Cg)))))
   (AF (Ai (DA (BA (AM (JJ rfl) rfl T.all VG (AA (Bb (fv:=[]) (fs:=[]) rfl (.of (by rfl)) (Bk (pv 1)) (fun _ _ _ _=>Bi) (fun C s0 H0 fp=>(AL NJ O rfl NI Y Z .nil AX (AA (pv 0) AB)))) AB)))) (AH (AN Cg)) AQ)
   (AH (AN (eT (AO (r:=Aw K) AU (pv 0) (UU Py AD) (fun _ _=>rfl)) (Po (DU (HR (Al.Es hr)) (Bb (fv:=[]) (fs:=[]) rfl (.of (by rfl)) (Bk (pv 1)) (fun C s0 H0 fp=>GP (AR RL (AO (r:=Aw K) AU (pv 0) AD (fun _ _=>rfl)) Ag (AZ _))) (fun C s0 H0 fp=>(pv 0))) (A_ AB) (AZ _))))))))))),?_⟩
  obtain⟨g,w0,rest,rfl,eE,kk⟩:=Ak.kinds xC BS hg aY za
  have ht:BY K H g (.str w0::rest):=eE.imp (fun r=>.inl (pl _ _ trivial r)) id
  refine⟨_,rfl,_,"tuple","tuple",rfl,rfl,.t ht,_,rfl,BJ ?_⟩
  refine⟨_,rfl,Nat.zero_le _,fun p1 gu=>.nil g p1 w0 rest rfl rfl (ht.put gu) (BY.of AE) ⟨_,rfl,BJ ?_⟩⟩
  have s1:=AG.new (o:=.tup []) gu
  generalize upd H p1 (.tup [])=H1 at s1⊢
  refine⟨_,rfl,Bf,fun p2 Ke=>?_⟩
  have B:=s1.trans (AG.new (o:=.tup [V.str "any"]) Ke)
  have f2:upd H1 p2 (.tup [V.str "any"]) p2=some (.tup [V.str "any"]):=AE
  generalize upd H1 p2 (.tup [V.str "any"])=H2 at B f2⊢
  have c:=ht.up B
  rcases kk with⟨rfl,rfl⟩|⟨rfl,u,rfl⟩|⟨J,m,kg,ko,kd,kz,km,kl,kc⟩
  ·exact .same g p2 "any" rfl rfl c (BY.of f2) ⟨_,rfl,Bs (q H2 B)⟩
  ·refine .other g p2 "just" "any" _ rfl rfl c (BY.of f2) (by decide) ⟨_,rfl,BJ ?_⟩
   refine⟨_,rfl,g,_,0,_,rfl,rfl,c,Cw,rfl,_,rfl,BK (by decide+kernel) ?_⟩
   exact⟨_,rfl,g,_,rfl,.inr c,rfl,q H2 B⟩
  have wn:w0≠"any"/\w0≠"just":=by
   rcases kc with⟨rfl,_⟩|⟨rfl,_⟩
   ·exact⟨by decide,by decide⟩
   ·exact⟨by decide,by decide⟩
  refine .other g p2 w0 "any" _ rfl rfl c (BY.of f2) wn.1 ⟨_,rfl,BJ ?_⟩
  refine⟨_,rfl,g,_,0,_,rfl,rfl,c,Cw,rfl,_,rfl,Aj (decide_eq_false fun z=>wn.2 (V.str.inj z)) ?_⟩
  dsimp only[Zi]
  refine Mb (t:=Pq _ _ _) (fun σ' H5=>∃(D:Addr) (d:List V),σ'=[some (.ref g),some (.ref D)]/\AG H H5/\Rd H5 D (.lst d)/\Aa G d (Ak.Fh J)) (fun σ' H5 ⟨D,d,es,s5,hD,rv⟩=>?_) (fun key=>?_)
  rotate_left
  ·rcases kc with⟨rfl,a,d,rfl,ha,ra⟩|⟨rfl,a,kvs,ks,lz,p,rfl,ha,Ph,ra,hlz,ml,dj⟩
   ·have I:=B _ _ (pl a (.lst d) trivial ha)
    refine⟨_,rfl,g,_,0,_,rfl,rfl,c,Cw,rfl,_,rfl,BK (by decide+kernel) ?_⟩
    refine⟨_,rfl,g,_,rfl,.inr c,rfl,_,rfl,BK rfl ?_⟩
    refine⟨_,rfl,g,_,1,_,rfl,rfl,c,Ca,_,"list","list",rfl,rfl,.n (.lst (.inl I)),_,rfl,BK rfl ?_⟩
    refine⟨_,rfl,g,_,2,_,rfl,rfl,c,at2,_,"bool","bool",rfl,rfl,.n (.bl m),_,rfl,BK rfl ?_⟩
    exact⟨_,rfl,g,_,1,_,rfl,rfl,c,Ca,key _ _ ⟨a,d,rfl,B,.inl I,ra⟩⟩
   ·have I:=B _ _ (pl a (.dK kvs) trivial ha)
    have Wx:=B _ _ (pl lz (.lst (p.map V.str)) trivial hlz)
    have lf:p.length<=60/\p.Nodup/\PyProof.Rows.sortedS p=true:=by
     rcases ml with⟨_,h⟩|⟨_,rfl⟩
     ·exact h
     ·exact⟨by simp,.nil,rfl⟩
    have fl:∀z∈p.map V.str,CI z=true:=fun z hz=>by
     obtain⟨y,_,rfl⟩:=List.mem_map.mp hz
     rfl
    refine⟨_,rfl,g,_,0,_,rfl,rfl,c,Cw,rfl,_,rfl,Aj (by decide+kernel) ?_⟩
    refine⟨_,rfl,g,_,0,_,rfl,rfl,c,Cw,rfl,_,rfl,BK (by decide+kernel) ?_⟩
    refine⟨_,rfl,g,_,rfl,.inr c,rfl,_,rfl,BK rfl ?_⟩
    refine⟨_,rfl,g,_,1,_,rfl,rfl,c,Ca,_,"dict","dict",rfl,rfl,.n (.dK (.inl I)),_,rfl,BK rfl ?_⟩
    refine⟨_,rfl,g,_,3,_,rfl,rfl,c,Aq (j:=3) rfl,_,"bool","bool",rfl,rfl,.n (.bl m),_,rfl,BK rfl ?_⟩
    refine⟨_,rfl,g,_,1,_,rfl,rfl,c,Ca,.inr (.inr (.inl ⟨rfl,.inl ⟨_,I⟩⟩)),a,kvs,rfl,rfl,.inl I,fun pv hpv=>?_⟩
    have s3:=AG.new (o:=IF pv a) hpv
    have f3:upd H2 pv (IF pv a) pv=some (IF pv a):=AE
    generalize upd H2 pv (IF pv a)=H3 at s3 f3⊢
    refine⟨pv,a,kvs,rfl,f3,.inl (s3 _ _ I),fun pD hpD=>?_⟩
    have s4:=s3.trans (AG.new (o:=.lst (kvs.map (·.2))) hpD)
    have f4:upd H3 pD (.lst (kvs.map (·.2))) pD=some (.lst (kvs.map (·.2))):=AE
    generalize upd H3 pD (.lst (kvs.map (·.2)))=H4 at s4 f4⊢
    have S:=c.up s4
    have T':=s4 _ _ Wx
    dsimp only[Eo]
    refine Mb (t:=Pq _ _ _) (fun σ' H5=>σ'=[some (.ref g),some (.ref pD)]/\AG H4 H5) (fun σ' H5 ⟨es,s5⟩=>?_) (fun cz=>?_)
    rotate_left
    ·refine⟨_,rfl,g,_,2,_,rfl,rfl,S,at2,_,"list","list",rfl,rfl,.n (.lst (.inl T')),_,rfl,BJ ?_⟩
     refine⟨_,rfl,g,_,2,_,rfl,rfl,S,at2,lz,p,rfl,Ap.of T',lf.2.1,by lia,fun ps hps=>⟨ps,p,rfl,AE,by lia,fun p6 ss H6 np6 s6 f6 pm so=>?_⟩⟩
     have e6:ss=p:=CN so lf.2.2 pm
     subst e6
     have s46:=(AG.new hps).trans s6
     refine⟨_,rfl,g,_,2,_,rfl,rfl,S.up s46,at2,p6,lz,_,_,rfl,rfl,Ap.of f6,Ap.of (s46 _ _ T'),fl,fl,?_⟩
     rw[TK fl]
     refine⟨_,rfl,BJ ?_⟩
     refine⟨_,rfl,g,_,2,_,rfl,rfl,S.up s46,at2,Nat.zero_le _,fun pe L=>?_⟩
     have U:=s46.trans (AG.new (o:=.lst []) L)
     have f7:upd H6 pe (.lst []) pe=some (.lst []):=AE
     generalize upd H6 pe (.lst [])=H7 at U f7⊢
     refine⟨lz,pe,_,rfl,rfl,Ap.of (U _ _ T'),Ap.of f7,_,rfl,?_⟩
     rcases ml with⟨rfl,_⟩|⟨rfl,rfl⟩
     ·refine Cr (fun _=>?_) (fun _=>BJ (cz _ _ ⟨rfl,U⟩))
      exact⟨_,rfl,g,_,3,_,rfl,rfl,S.up U,Aq (j:=3) rfl,_,rfl,BJ (cz _ _ ⟨rfl,U⟩)⟩
     ·exact BJ (BJ (cz _ _ ⟨rfl,U⟩))
    ·subst es
     have kA:=S.up s5
     have cm:=s5 _ _ T'
     have xD:=s5 _ _ (s4 _ _ I)
     have li:∀i,i<p.length->(p.map V.str)[i]?=some (.str (p.getD i "")):=fun i l=>by
      rw[List.getElem?_map,ADr l,List.getD_eq_getElem?_getD,ADr l]
      rfl
     refine⟨_,rfl,g,_,2,_,rfl,rfl,kA,at2,lz,rfl,⟨_,Ap.of cm⟩,?_⟩
     have M:∀{k:Addr} {N:List V},H5 k=none->upd H5 k (.lst N) lz=some (.lst (p.map V.str)):=fun h=>by rw[AK (Ac cm h)];exact cm
     refine Cv (n:=p.length) (fun i=>.str (p.getD i "")) (fun i=>.str (p.getD i "")) (fun i=>decide (p.getD i ""∈ks)) (Ab (by lia)) (fun i k N l b=>⟨_,_,Ap.of (M b),li i l⟩) (fun i k N v H' l b y=>?_)
      (fun k N b=>⟨_,Ap.of (M b),by rw[List.length_map];exact Nat.le_refl _⟩) (fun i k N R l b r=>?_) (fun i k N R l b _ r=>⟨_,rfl,r⟩) (fun k b=>?_)
     ·obtain⟨e,y⟩:=y
      have:=y _ (Ap.of (M b))
      rw[li i l]at this
      exact⟨(ADt this).symm,e⟩
     ·have ha6:upd H5 k (.lst N) a=some (.dK kvs):=by rw[AK (Ac xD b)];exact xD
      refine⟨_,rfl,_,rfl,g,_,1,_,rfl,rfl,kA.put b,Ca,a,_,rfl,.inl ⟨kvs,Sum.inr (p.getD i ""),.inl ha6,rfl,rfl⟩,_,rfl,?_⟩
      rw[OT Ph]
      exact r
     ·rw[FU p fun n=>decide (n∈ks)]
      have e0:p.filter (fun n=>decide (n∈ks))=[]:=List.filter_eq_nil_iff.mpr fun x hx=>by simpa using dj x hx
      rw[e0]
      have s6:=AG.new (o:=.lst (([]:List Str).map V.str)) b
      have f6:upd H5 k (.lst (([]:List Str).map V.str)) k=some (.lst []):=AE
      generalize upd H5 k (.lst (([]:List Str).map V.str))=H6 at s6 f6⊢
      refine⟨Nat.zero_le _,fun pe L=>?_⟩
      have U:=s6.trans (AG.new (o:=.lst []) L)
      refine⟨k,pe,_,rfl,rfl,Ap.of ((AG.new L) _ _ f6),Ap.of AE,_,rfl,BJ (key _ _ ⟨pD,_,rfl,((B.trans s4).trans s5).trans U,.inl (U _ _ (s5 _ _ f4)),ra⟩)⟩
  ·subst es
   have lv:=rv.length
   rw[Ak.BH,List.length_map]at lv
   have lx:=Ak.CV J
   have gi:∀{i:Nat} {x:V},d[i]?=some x->d.getD i .BO=x:=fun h=>by rw[List.getD_eq_getElem?_getD,h];rfl
   refine⟨_,rfl,D,rfl,⟨_,.inl hD⟩,CQ (n:=d.length) (fun i=>d.getD i .BO) (fun _ v=>v=.bl true) (Ab (by lia)) (fun i H2 l B=>⟨_,_,B.seq (.inl hD),ADr l⟩) (fun i H2 v H' l B y=>?_) (fun H2 B=>⟨_,B.seq (.inl hD),Nat.le_refl _⟩) (fun i H2 R l B r=>?_) (fun D3 H6 rs mu s6 d6 lr or=>?_)⟩
   ·obtain⟨e,y⟩:=y
    exact⟨(gi (y _ (B.seq (.inl hD)))).symm,e⟩
   ·obtain⟨x,hx⟩:∃x,d[i]?=some x:=⟨_,ADr l⟩
    obtain⟨px,g1,vx⟩:=rv.get hx
    obtain⟨ax,RC⟩:∃ax,J[i]?=some ax:=⟨_,ADr (by lia)⟩
    rw[Ak.BH,List.getElem?_map,RC]at g1
    cases g1
    have m1:=ADu RC
    have d1:=Ak.BC m1
    have z1:=Ak.Bj m1
    rw[gi hx]
    exact⟨_,rfl,G,x,ax,rfl,(pl.up s5).up B,vx,Ak.Bg ko _ m1,Ak.Oy kg _ m1,by lia,by lia,fun H3 s3=>r _ H3 s3 rfl⟩
   have e:rs=(List.replicate d.length true).map V.bl:=by
    rw[List.map_replicate]
    refine List.eq_replicate_iff.mpr ⟨lr,fun z hz=>?_⟩
    obtain⟨i,l,rfl⟩:=List.getElem_of_mem hz
    exact or i _ (ADr l)
   rw[e]at d6
   refine⟨D3,_,rfl,Ap.of d6,?_⟩
   have ea:(List.replicate d.length true).all id=true:=by simp
   rw[ea]
   refine⟨_,rfl,BJ ?_⟩
   have s56:=s5.trans s6
   refine⟨_,rfl,_,rfl,g,_,-1,.bl m,rfl,rfl,ht.up s56,kl,m,rfl,?_⟩
   cases m with
   |true=>exact Bs (q _ s56)
   |false=>
    refine BJ ?_
    have xE:=hD.up (s6 _)
    have kn:Ak.Cp J=none:=km.resolve_left (fun z=>nomatch z)
    obtain⟨j,xj,hj,wj⟩:=Ak.Li kn
    refine⟨_,rfl,D,rfl,⟨_,.inl xE⟩,?_⟩
    have M:∀{k:Addr} {N:List V},H6 k=none->Ap K (upd H6 k (.lst N)) D d:=fun h=>(AG.new h).seq (.inl xE)
    refine Cv (n:=d.length) (fun i=>d.getD i .BO) (fun i=>d.getD i .BO) (fun i=> !decide ((J.getD i .any).word="just")) (Ab (by lia)) (fun i k N l b=>⟨_,_,M b,ADr l⟩) (fun i k N v H' l b y=>?_)
     (fun k N b=>⟨_,M b,Nat.le_refl _⟩) (fun i k N R l b r=>?_) (fun i k N R l b _ r=>⟨_,rfl,r⟩) (fun k b=>?_)
    ·obtain⟨e,y⟩:=y
     exact⟨(gi (y _ (M b))).symm,e⟩
    ·obtain⟨x,hx⟩:∃x,d[i]?=some x:=⟨_,ADr l⟩
     obtain⟨px,g1,vx⟩:=rv.get hx
     obtain⟨ax,RC⟩:∃ax,J[i]?=some ax:=⟨_,ADr (by lia)⟩
     rw[Ak.BH,List.getElem?_map,RC]at g1
     cases g1
     have ex:J.getD i .any=ax:=by rw[List.getD_eq_getElem?_getD,RC];rfl
     rw[gi hx]
     rw[ex]at r
     obtain⟨t1,r1,rfl,h1⟩:=((pl.up s56).val vx).word
     refine⟨_,rfl,t1,_,0,_,rfl,rfl,h1.put b,Cw,rfl,_,rfl,?_⟩
     have ed:decide (V.str ax.word=V.str "just")=decide (ax.word="just"):=by
      rw[Bool.eq_iff_iff,decide_eq_true_iff,decide_eq_true_iff]
      exact⟨V.str.inj,fun z=>by rw[z]⟩
     rw[ed]
     exact r
    ·have U:=AG.new (o:=.lst (((List.range d.length).filter fun i=> !decide ((J.getD i .any).word="just")).map fun i=>d.getD i .BO)) b
     have ne:(((List.range d.length).filter fun i=> !decide ((J.getD i .any).word="just")).map fun i=>d.getD i V.BO).isEmpty=false:=by
      have hjl:=(ADs hj).1
      have ex:J.getD j .any=xj:=by rw[List.getD_eq_getElem?_getD,hj];rfl
      have hm:d.getD j V.BO∈((List.range d.length).filter fun i=> !decide ((J.getD i .any).word="just")).map fun i=>d.getD i V.BO:=List.mem_map.mpr ⟨j,List.mem_filter.mpr ⟨List.mem_range.mpr (by lia),by rw[ex];simpa using wj⟩,rfl⟩
      cases hc:((List.range d.length).filter fun i=> !decide ((J.getD i .any).word="just")).map fun i=>d.getD i V.BO with
      |nil=>rw[hc]at hm;exact nomatch hm
      |cons _ _=>rfl
     have f7:upd H6 k (.lst (((List.range d.length).filter fun i=> !decide ((J.getD i .any).word="just")).map fun i=>d.getD i .BO)) k=some (.lst (((List.range d.length).filter fun i=> !decide ((J.getD i .any).word="just")).map fun i=>d.getD i .BO)):=AE
     generalize upd H6 k (.lst (((List.range d.length).filter fun i=> !decide ((J.getD i .any).word="just")).map fun i=>d.getD i .BO))=H7 at U f7⊢
     refine⟨Nat.zero_le _,fun pe L=>⟨k,pe,_,rfl,rfl,Ap.of ((AG.new L) _ _ f7),Ap.of AE,?_⟩⟩
     rw[ne]
     exact q _ ((s56.trans U).trans (AG.new L))
theorem Kc {f:Addr} {d:FuncData} (F:Ct K "_law_is_good" "_law_is_good" Ee f d) (T:Txt mg) (b:Binds K d ["_law_asks_here"] []) (m:mg "_law_is_good"=some (.ref f)) (c:mg "set"=none):∀n:Nat,BG P w K mg base CW n f d ["_law_asks_here"] (FH n)
 |0=>JQ (fun vs H Q E h=>by obtain⟨_,_,a,_,_,_,_,_,e,_⟩:=h;have:=Ak.D' a;omega)
 |n+1=>UB F T (Df.mk' F b m (Kc F T b m c n)) c
end
end By
namespace By
open PySem L2
section
variable{P:Program} {w:World} {K:ADv} [Ar K] {mg:Str->Option Value} {base:Heap}
theorem XN:Ah ["_law_asks_here","_law_step"] ["_law_asks_here","_law_step"] (AI Ls):=⟨rfl,rfl,rfl,by decide+kernel,rfl,by decide+kernel,by decide+kernel⟩
theorem ZS {f:Addr} {X:FuncData} (F:Ct K "_law_into" "_law_into" Ls f X) (T:Txt mg):BG P w K mg base CW 1 f X ["_law_asks_here","_law_step"] Iq:=by
 refine F.ok XN (fun vs H Q E h=>?_) (fun IV A outer s H vs Q E hr h=>?_)
 ·obtain⟨G,v,a,b,k,rfl,t,y,B,J,q⟩:=h
  rfl
 ·obtain⟨G,v,a,b,k,rfl,t,y,B,J,q⟩:=h
  have nd:=XN.nd
  have Y:=BU hr
  have hv:=y.up t
  refine⟨_,(AF (Ai (PW.pt (pw_and (AR Bl (AO (r:=Aw K) AU (pv 0) AD (fun _ _=>rfl)) Ag (AZ _)) (pw_and1 (BA (AM QM rfl T.isinstance AW (AA (AO (r:=Aw K) AU (pv 0) AD (fun _ _=>rfl)) (AA (BL (AA (Az (v:=.ty "list") rfl T.list Bv rfl) (AA (Az (v:=.ty "dict") rfl T.dict Co rfl) AB))) AB))))))) (AH (AN (BL (AA Ag (AA (DH (AO (r:=B' K) As (AO (r:=Aw K) AU (pv 0) AD (fun _ _=>rfl)) (pv 1) (fun _ _=>rfl)) (Bx Y (AO (r:=Aw K) AU (pv 0) AD (fun _ _=>rfl)) (pv 1) (fun _ _=>rfl))) AB))))) AQ)
   (AH (AN (DH (AO (r:=B' K) As (AO (r:=Aw K) AU (pv 0) AD (fun _ _=>rfl)) (pv 1) (fun _ _=>rfl)) (Bx Y (AO (r:=Aw K) AU (pv 0) AD (fun _ _=>rfl)) (pv 1) (fun _ _=>rfl)))))),?_⟩
  obtain⟨x,w0,rest,rfl,U,kinds⟩:=y.ak
  have c:=U.up t
  rcases kinds with⟨rfl,rfl,rfl⟩|⟨d,u,rfl,rfl,rfl,g⟩|⟨xs,m,u,rfl,rfl,rfl,g⟩|⟨ns,xs,ls,m,u,z,rfl,rfl,rfl,g,hz⟩
  ·exact absurd J (by cases k<;>exact fun z=>nomatch z)
  ·simp only[Ak.Ec,Option.map_eq_some_iff]at J
   obtain⟨e,i,rfl⟩:=J
   simp only[Ak.Br]at B
   refine⟨_,rfl,x,_,0,_,rfl,rfl,c,Cw,rfl,_,rfl,BK (by decide+kernel) ?_⟩
   have hold:VE d.XX=true:=by
    cases d with
    |lst _=>rfl
    |BF _ _=>rfl
    |int _=>cases k<;>cases i
    |str _=>cases k<;>cases i
    |bl _=>cases k<;>cases i
    |tup _=>cases k<;>cases i
   refine⟨_,rfl,x,_,1,u,rfl,rfl,c,Ca,Ax,fun Z hX=>?_⟩
   have C:=AG.new (o:=.tup [V.ty "list",V.ty "dict"]) hX
   refine⟨_,Z,d.XX,rfl,AE,((g.up t).up C).zA B,_,rfl,BK hold ?_⟩
   have D:=c.up C
   generalize upd H Z (.tup [V.ty "list",V.ty "dict"])=H1 at C D⊢
   have L:=t.trans C
   obtain⟨w,I,M⟩:=g.Qv i
   have vj:∀{N:Addr} (h:H1 N=none),Val (ov G H (upd H1 N (.tup [.str "just",w]))) (.ref N) (Ak.Ao e).pt:=fun h=>.tup (.of (by rw[Wg t (C.free h),AE])) (.cons (.str _) (.cons (I.up Ho) .nil))
   cases M with
   |pl a2 O j l n R p=>exact .inl ⟨_,rfl,x,_,1,u,rfl,rfl,D,Ca,_,rfl,a2,_,_,_,l,R,.inl (n.up (L _)),Aq p,Ax,fun N S=>q _ _ (C.trans (AG.new S)) (vj S)⟩
   |nm a2 kvs l n p=>exact .inr ⟨_,rfl,x,_,1,u,rfl,rfl,D,Ca,_,rfl,a2,w,l,.inl ⟨_,k,n.up (L _),rfl,p.symm⟩,Ax,fun N S=>q _ _ (C.trans (AG.new S)) (vj S)⟩
  ·refine⟨_,rfl,x,_,0,_,rfl,rfl,c,Cw,rfl,_,rfl,Aj (by decide+kernel) ?_⟩
   have i:=Ak.SA (xs:=xs) (m:=m) (k:=k)
   rw[J]at i
   obtain⟨w,I,M⟩:=g.Qv i
   cases M with
   |pl a2 O j l n R p=>exact .inl ⟨_,rfl,x,_,1,u,rfl,rfl,c,Ca,_,rfl,a2,_,_,_,l,R,.inl (n.up (t _)),Aq p,q _ _ (AG.refl _) (I.up Ho)⟩
   |nm a2 kvs l n p=>exact .inr ⟨_,rfl,x,_,1,u,rfl,rfl,c,Ca,_,rfl,a2,w,l,.inl ⟨_,k,n.up (t _),rfl,p.symm⟩,q _ _ (AG.refl _) (I.up Ho)⟩
  ·refine⟨_,rfl,x,_,0,_,rfl,rfl,c,Cw,rfl,_,rfl,Aj (by decide+kernel) ?_⟩
   have i:=Ak.SD (ks:=ns) (ls:=ls) (xs:=xs) (m:=m) (k:=k)
   rw[J]at i
   obtain⟨w,I,M⟩:=g.Qv i
   cases M with
   |pl a2 O j l n R p=>exact .inl ⟨_,rfl,x,_,1,u,rfl,rfl,c,Ca,_,rfl,a2,_,_,_,l,R,.inl (n.up (t _)),Aq p,q _ _ (AG.refl _) (I.up Ho)⟩
   |nm a2 kvs l n p=>exact .inr ⟨_,rfl,x,_,1,u,rfl,rfl,c,Ca,_,rfl,a2,w,l,.inl ⟨_,k,n.up (t _),rfl,p.symm⟩,q _ _ (AG.refl _) (I.up Ho)⟩
end
end By
namespace By
open PySem L2
section
variable{P:Program} {w:World} {K:ADv} [Ar K] {mg:Str->Option Value} {base:Heap}
theorem SW:Ah ["_law_asks_here","_law_inner"] ["_law_asks_here"] (AI Hz):=⟨rfl,rfl,rfl,by decide+kernel,rfl,by decide+kernel,by decide+kernel⟩
theorem XO {f:Addr} {fd:FuncData} (F:Ct K "_law_steps" "_law_steps" Hz f fd) (T:Txt mg):BG P w K mg base CW 1 f fd ["_law_asks_here"] FI:=by
 refine F.ok SW (fun vs H Q E h=>?_) (fun IV A outer s H vs Q E J h=>?_)
 ·obtain⟨v,a,rfl,hv,e,G,q⟩:=h
  rfl
 ·obtain⟨v,a,rfl,hv,e,G,q⟩:=h
  have nd:=SW.nd
  have hu:=BU J
  refine⟨_,(AF (AY (i:=1) nd rfl (Or.inl rfl) (UN (AR RL (AO (r:=Aw K) AU (pv 0) AD (fun _ _=>rfl)) Ag (AZ _)) (AO (r:=Aw K) AU (pv 0) AD (fun _ _=>rfl)) Ag))
   (AF (Ai (BA (AM (BB:BD _ _ (CO K)) rfl T.isinstance AW (AA (pv 1) (AA (Az (v:=.ty "list") rfl T.list Bv rfl) AB)))) (AH (AN (Bd (Fp rfl) rfl T.list Bv (AA (OA rfl T.range (AA (AM Ad rfl T.len PySem.boot_len (AA (pv 1) AB)) AB)) AB)))) AQ)
   (AF (Ai (BA (AM (BB:BD _ _ (CO K)) rfl T.isinstance AW (AA (pv 1) (AA (Az (v:=.ty "dict") rfl T.dict Co rfl) AB)))) (AH (AN (AM (ER rfl) rfl T.sorted Ey (AA (pv 1) AB)))) AQ)
   (AH (AN (A_ AB)))))),?_⟩
  obtain⟨L,w0,rest,rfl,l,kinds⟩:=hv.ak
  rcases kinds with⟨rfl,rfl,rfl⟩|⟨d,u,rfl,rfl,rfl,t⟩|⟨xs,m,u,rfl,rfl,rfl,t⟩|⟨M,xs,ls,m,u,z,rfl,rfl,rfl,t,hz⟩
  ·refine⟨_,rfl,L,_,0,_,rfl,rfl,l,Cw,rfl,_,rfl,Aj (by decide+kernel) ?_⟩
   have ty:=JK.str (H:=H) ""
   refine⟨_,rfl,_,"list",_,rfl,rfl,.n ty,_,rfl,Aj rfl ?_⟩
   refine⟨_,rfl,_,"dict",_,rfl,rfl,.n ty,_,rfl,Aj rfl ?_⟩
   exact⟨Nat.zero_le _,fun p b=>q p [] [] _ (AG.new b) b AE (Ak.NL.none fun k=>by cases k<;>rfl)⟩
  ·skip
   refine⟨_,rfl,L,_,0,_,rfl,rfl,l,Cw,rfl,_,rfl,BK (by decide+kernel) ?_⟩
   refine⟨_,rfl,L,_,1,_,rfl,rfl,l,Ca,?_⟩
   simp only[Ak.Br]at e
   simp only[Ak.wt]at G
   cases t with
   |int j=>
    have ty:=JK.int (H:=H) j
    refine⟨_,rfl,_,"list",_,rfl,rfl,.n ty,_,rfl,Aj rfl ?_⟩
    refine⟨_,rfl,_,"dict",_,rfl,rfl,.n ty,_,rfl,Aj rfl ?_⟩
    exact⟨Nat.zero_le _,fun p b=>q p [] [] _ (AG.new b) b AE (Ak.NL.none fun k=>by cases k<;>rfl)⟩
   |str j=>
    have ty:=JK.str (H:=H) j
    refine⟨_,rfl,_,"list",_,rfl,rfl,.n ty,_,rfl,Aj rfl ?_⟩
    refine⟨_,rfl,_,"dict",_,rfl,rfl,.n ty,_,rfl,Aj rfl ?_⟩
    exact⟨Nat.zero_le _,fun p b=>q p [] [] _ (AG.new b) b AE (Ak.NL.none fun k=>by cases k<;>rfl)⟩
   |bl j=>simp[Pt.doc]at e
   |tup _ _=>simp[Pt.doc]at e
   |@lst N y D c U=>
    have O:y.length=(D.map Ak.Ao).length:=by rw[List.length_map];exact U.length
    have lt:=Pt.CV D
    simp only[Pt.size]at G
    have l2:(D.map Ak.Ao).length=D.length:=by rw[List.length_map]
    have o:Ak.NL (.Ao (.lst D)) (Ak.nK (D.map Ak.Ao).length) (D.map Ak.Ao):=.list (by rw[Ak.KD];exact Nat.le_refl _) (fun i=>by
     simp only[Ak.Ec,Pt.Gu]
     split
     ·rw[List.getElem?_map]
     ·rfl) (fun _=>rfl)
    refine⟨_,rfl,_,"list",_,rfl,rfl,.n (.lst c),_,rfl,BK rfl ?_⟩
    refine⟨_,rfl,N,_,rfl,.inl (.inl c),_,rfl,fun r J=>?_⟩
    refine⟨r,y.length,rfl,AE,by lia,fun p b=>?_⟩
    refine q p _ _ _ ((AG.new J).trans (AG.new b)) ((AG.new J).free b) ?_ o
    rw[AE]
    simp only[Ak.nK,List.map_map,O]
    rfl
   |@BF N g M D c B U=>
    simp only[Pt.doc]at e
    obtain⟨V,R,_,o4,_⟩:=e
    have kl:g.length=M.length:=by have:=congrArg List.length B;simpa using this
    have mk:∀ss:List Str,ss.Perm M->∃C,Ak.NL (.Ao (.BF M D)) (ss.map Sum.inr) C:=fun ss I=>by
     obtain⟨C,S⟩:=Hd (xs:=D.map Ak.Ao) (by rw[List.length_map];exact V) (ss:=ss) fun k X=>I.mem_iff.mp X
     exact⟨C,.gP (by rw[List.length_map];exact V) R (by rw[Ak.KD];exact Nat.le_refl _) I S (fun x=>by simp only[Ak.Ec,Pt.Gu];rw[Fw]) (fun _=>rfl)⟩
    refine⟨_,rfl,_,"list",_,rfl,rfl,.n (.dK c),_,rfl,Aj rfl ?_⟩
    refine⟨_,rfl,_,"dict",_,rfl,rfl,.n (.dK c),_,rfl,BK rfl ?_⟩
    refine⟨_,rfl,N,g,_,rfl,c,B,by lia,fun p ss Y Z s1 fp I st=>?_⟩
    obtain⟨C,o⟩:=mk ss I
    refine q p _ C Y s1 Z ?_ o
    rw[fp,List.map_map]
    rfl
  ·skip
   refine⟨_,rfl,L,_,0,_,rfl,rfl,l,Cw,rfl,_,rfl,BK (by decide+kernel) ?_⟩
   refine⟨_,rfl,L,_,1,_,rfl,rfl,l,Ca,?_⟩
   simp only[Ak.wt]at G
   obtain⟨N,y,rfl,c,U⟩:=t.YR
   have O:y.length=xs.length:=by rw[U.length,Ak.BH,List.length_map]
   have:=Ak.CV xs
   have:=Ak.Cn xs
   have o:Ak.NL (.row xs m) (Ak.nK xs.length) xs:=.list (Nat.le_refl _) (fun _=>rfl) (fun _=>rfl)
   refine⟨_,rfl,_,"list",_,rfl,rfl,.n (.lst c),_,rfl,BK rfl ?_⟩
   refine⟨_,rfl,N,_,rfl,.inl (.inl c),_,rfl,fun r J=>?_⟩
   refine⟨r,y.length,rfl,AE,by lia,fun p b=>?_⟩
   refine q p _ _ _ ((AG.new J).trans (AG.new b)) ((AG.new J).free b) ?_ o
   rw[AE]
   simp only[Ak.nK,List.map_map,O]
   rfl
  ·skip
   refine⟨_,rfl,L,_,0,_,rfl,rfl,l,Cw,rfl,_,rfl,BK (by decide+kernel) ?_⟩
   refine⟨_,rfl,L,_,1,_,rfl,rfl,l,Ca,?_⟩
   simp only[Ak.Br]at e
   obtain⟨V,R,_,o4,_⟩:=e
   obtain⟨N,g,rfl,c,B,U⟩:=t.cC
   have kl:g.length=M.length:=by have:=congrArg List.length B;simpa using this
   have mk:∀ss:List Str,ss.Perm M->∃C,Ak.NL (.tab M xs ls m) (ss.map Sum.inr) C:=fun ss I=>by
    obtain⟨C,S⟩:=Hd V (ss:=ss) fun k X=>I.mem_iff.mp X
    exact⟨C,.gP V R (Nat.le_refl _) I S (fun _=>rfl) (fun _=>rfl)⟩
   refine⟨_,rfl,_,"list",_,rfl,rfl,.n (.dK c),_,rfl,Aj rfl ?_⟩
   refine⟨_,rfl,_,"dict",_,rfl,rfl,.n (.dK c),_,rfl,BK rfl ?_⟩
   refine⟨_,rfl,N,g,_,rfl,c,B,by lia,fun p ss Y Z s1 fp I st=>?_⟩
   obtain⟨C,o⟩:=mk ss I
   refine q p _ C Y s1 Z ?_ o
   rw[fp,List.map_map]
   rfl
end
end By
namespace By
open PySem L2
section
variable{P:Program} {w:World} {K:ADv} [Ar K] {mg:Str->Option Value} {base:Heap}
theorem XP:Ah ["_law_asks_here","_law_path","_law_found","_law_step"] ["_law_asks_here","_law_path"] (AI KU):=⟨rfl,rfl,rfl,by decide+kernel,rfl,by decide+kernel,by decide+kernel⟩
theorem ZT {n:Nat} {f:Addr} {fd:FuncData} (F:Ct K "_law_told" "_law_told" KU f fd) (T:Txt mg) (N:Df P w K mg base "_law_into" ["_law_asks_here","_law_step"] 1 Iq) (m:Df P w K mg base "_law_steps" ["_law_asks_here"] 1 FI) (O:Df P w K mg base "_law_told" ["_law_asks_here","_law_path"] n (KL n)):BG P w K mg base CW (n+1) f fd ["_law_asks_here","_law_path"] (KL (n+1)):=by
 obtain⟨xF,xG,R,S,U,X⟩:=N.ex
 obtain⟨nh,ni,r,t,u,y⟩:=m.ex
 obtain⟨iF,iG,Y,Z,XQ,XR⟩:=O.ex
 refine F.ok XP (fun vs H Q E h=>?_) (fun IV A outer s H vs Q E hr h=>?_)
 ·obtain⟨G,v,a,p,ks,rfl,j,hv,B,hs,Wj,hp,hl,aY,q⟩:=h
  rfl
 ·obtain⟨G,v,a,p,ks,rfl,j,hv,B,hs,Wj,hp,hl,aY,q⟩:=h
  have nd:=XP.nd
  have hu:=BU hr
  have C:Al 1 _:=hr.mono (by first|decide|omega)
  have g:Al 1 _:=hr.mono (by first|decide|omega)
  have I:Al n _:=hr.mono (by first|decide|omega)
  refine⟨_,(AF (AY (i:=2) nd rfl (Or.inl rfl) (A_ (AA (BL (AA (pv 1) (AA (pv 0) AB))) AB)))
   (AF (CD PassesOwn.never rfl (Bk (AL y g rfl u r t .nil AX (AA (pv 0) AB))) (Bh (i:=3) nd rfl (Or.inl rfl)) (AH (Cs (JD PySem.F.plainAttrs_list PySem.F.slot_list_extend PySem.F.type_list_extend LF (pv 2) (AA (AL XR I rfl XQ Y Z .nil AX (AA (AL X C rfl U R S .nil AX (AA (pv 0) (AA (pv 3) AB))) (AA (AS Yn (pv 1) (BL (AA (pv 3) AB))) AB))) AB)))))
   (AH (AN (pv 2))))),?_⟩
  have XY:H p=some (.tup (ks.map kV)):=j _ _ hp
  refine⟨_,rfl,_,rfl,Ax,fun l hT=>⟨Bf,fun D hD=>?_⟩⟩
  have sT:=AG.new (o:=.tup [.ref p,v]) hT
  have fT:upd H l (.tup [.ref p,v]) l=some (.tup [.ref p,v]):=AE
  generalize upd H l (.tup [.ref p,v])=H1 at sT fT hD⊢
  have hTD:l≠D:=fun z=>by rw[z,hD]at fT;cases fT
  have nj:=AG.new (o:=.lst [.ref l]) hD
  have fD:upd H1 D (.lst [.ref l]) D=some (.lst [.ref l]):=AE
  have xH:=nj _ _ fT
  generalize upd H1 D (.lst [.ref l])=H2 at nj fD xH⊢
  have s2:=sT.trans nj
  have HD:H D=none:=sT.free hD
  have GD:G D=none:=j.free HD
  have oG:∀{d:Hp},AG G (Dk D (ov G H d)):=fun b o e=>by
   rw[DM (fun z=>by rw[z,GD]at e;cases e)]
   exact Ho _ _ e
  have t0:We (K:=K) (Dk D (ov G H H2)) a ks (.ref l):=⟨l,p,v,[],a,rfl,by rw[DM hTD,Wg j hT];exact xH,by rw[List.append_nil];exact oG _ _ hp,rfl,hv.up oG⟩
  refine⟨_,rfl,v,a,rfl,(hv.up j).up s2,B,Wj,fun L kz bs H3 s3 nL fL xI=>?_⟩
  have fD3:=s3 _ _ fD
  have LD:L≠D:=fun z=>by rw[z,fD]at nL;cases nL
  have ke:=xI.e
  have kw:=xI.w
  have xJ:kz.length=bs.length:=by have:=congrArg List.length ke;simpa using this
  refine⟨L,rfl,⟨_,Ap.of fL⟩,Ci (K:=K) (xs:=kz.map kV) (fun i σ d=>∃(ws:List V) (o:Option V),σ=[some v,some (.ref p),some (.ref D),o]/\AG H d/\d L=some (.lst (kz.map kV))/\d D=some (.lst ws)/\ws.length<=1+Ak.Dm (bs.take i)/\∀w∈ws,We (K:=K) (Dk D (ov G H d)) a ks w)
   ⟨_,none,rfl,s2.trans s3,fL,fD3,by simp,fun w hw=>by rw[List.mem_singleton.mp hw];exact t0.up (KJ (M_ s3))⟩ (fun i σ d _ ⟨_,_,_,_,h,_⟩=>Ap.of h) ?_ ?_⟩
  ·rintro i x σ d hx ⟨ws,o,rfl,si,hL,c,lw,ta⟩
   rw[List.getElem?_map]at hx
   cases hk:kz[i]? with
   |none=>rw[hk]at hx;cases hx
   |some k=>
    rw[hk]at hx
    cases hx
    obtain⟨hi,ei⟩:=ADs hk
    obtain⟨b,hb⟩:∃b,bs[i]?=some b:=⟨_,ADr (by lia)⟩
    have eb:a.Ec k=some b:=by
     have:=congrArg (fun z=>z[i]?) ke
     simp only[List.getElem?_map,hk,hb]at this
     exact ADt this
    obtain⟨bG,bs',bw,bd⟩:=Ak.Qu B hs eb
    obtain⟨z1,z2⟩:=Ak.Wc hb
    have nD:d D≠none:=by rw[c];exact fun z=>nomatch z
    have sO:AG (Dk D (ov G H d)) d:=fun b o e=>QZ j si _ _ (DZ _ _ e)
    refine⟨_,rfl,.inl ⟨rfl,_,Ap.of c⟩,_,rfl,_,rfl,Dk D (ov G H d),v,a,b,k,rfl,sO,hv.up oG,B,eb,fun w H4 s4 vw=>?_⟩
    have s04:=si.trans s4
    refine⟨_,rfl,_,rfl,Bf,fun pk kB=>?_⟩
    have s5:=AG.new (o:=.tup [kV k]) kB
    have f5:upd H4 pk (.tup [kV k]) pk=some (.tup [kV k]):=AE
    generalize upd H4 pk (.tup [kV k])=H5 at s5 f5⊢
    refine⟨p,pk,_,_,rfl,rfl,(s04.trans s5) _ _ XY,f5,Ab (by simp only[List.length_map,List.length_singleton];lia),fun p6 H6 s6 f6 n6=>?_⟩
    have s46:=s5.trans s6
    have J:=s4.trans s46
    have s06:=si.trans J
    have p6D:p6≠D:=fun z=>by rw[z,J _ _ c]at f6;cases f6
    have n60:H p6=none:=by
     rcases n6 with⟨h,_⟩|rfl|h
     ·cases h
     ·exact s04.free kB
     ·exact s04.free (s5.free h)
    have D6:=J _ _ c
    have nD6:H6 D≠none:=by rw[D6];exact fun z=>nomatch z
    have sO6:AG (Dk D (ov G H H6)) H6:=fun b o e=>QZ j s06 _ _ (DZ _ _ e)
    have vw6:Val (Dk D (ov G H H6)) w b.pt:=(vw.up (Wh j si s4 nD)).up (KJ (M_ s46))
    have aZ:Yo (Dk D (ov G H H6)) p6 (ks++[k]):=by
     show Dk D (ov G H H6) p6=_
     rw[DM p6D,Wg j n60,f6,List.map_append]
     rfl
    refine⟨Dk D (ov G H H6),w,b,p6,ks++[k],rfl,sO6,vw6,bG,bs',by lia,aZ,by rw[List.length_append,List.length_singleton];lia,by lia,fun D7 ws7 H7 s7 nD7 f7 lw7 ta7=>?_⟩
    have M:=J.trans s7
    have D7i:=M _ _ c
    refine⟨D,D7,_,_,rfl,rfl,D7i,f7,?_,ws++ws7,_,rfl,?_,?_,AE,?_,?_⟩
    ·exact Ab (by lia)
    ·exact fun b o e=>by rw[AK (fun z=>by rw[z,HD]at e;cases e)];exact(si.trans M) _ _ e
    ·rw[AK LD];exact M _ _ hL
    ·rw[List.length_append];lia
    ·intro w hw
     rcases List.mem_append.mp hw with hw|hw
     ·exact(ta w hw).up fun b o e=>SE _ _ (KJ (M_ M) _ _ e)
     ·exact((ta7 w hw).into eb).up fun b o e=>SE _ _ (Wh j s06 s7 nD6 _ _ e)
  ·rintro σ d ⟨ws,o,rfl,si,hL,c,lw,ta⟩
   rw[List.length_map,xJ,List.take_length]at lw
   exact⟨_,rfl,q D ws d si HD c (by lia) fun w hw=>(ta w hw).up DZ⟩
theorem Pc {f:Addr} {d:FuncData} (F:Ct K "_law_told" "_law_told" KU f d) (T:Txt mg) (b:Binds K d ["_law_asks_here","_law_path"] []) (m:mg "_law_told"=some (.ref f)) (c:Df P w K mg base "_law_into" ["_law_asks_here","_law_step"] 1 Iq) (a:Df P w K mg base "_law_steps" ["_law_asks_here"] 1 FI):∀n:Nat,BG P w K mg base CW n f d ["_law_asks_here","_law_path"] (KL n)
 |0=>JQ (fun vs H Q E h=>by obtain⟨_,_,_,_,_,_,_,_,_,_,_,_,_,e,_⟩:=h;omega)
 |n+1=>ZT F T c a (Df.mk' F b m (Pc F T b m c a n))
end
end By
namespace By
open PySem L2
section
variable{P:Program} {w:World} {K:ADv} [Ar K] {mg:Str->Option Value} {base:Heap}
theorem Pd:Ah ["_law_asks_here","_law_names_here","_law_steps_here"] ["_law_asks_here","_law_names_here"] (AI Fg):=⟨rfl,rfl,rfl,by decide+kernel,rfl,by decide+kernel,by decide+kernel⟩
theorem UC {f:Addr} {fd:FuncData} (F:Ct K "_law_beyond" "_law_beyond" Fg f fd) (T:Txt mg) (p:Df P w K mg base "_law_steps" ["_law_asks_here"] 1 FI):BG P w K mg base CW 2 f fd ["_law_asks_here","_law_names_here"] KN:=by
 obtain⟨Y,Z,t,u,z,B⟩:=p.ex
 refine F.ok Pd (fun vs H Q E h=>?_) (fun IV A outer s H vs Q E hr h=>?_)
 ·obtain⟨v,a,nm,O,rfl,hv,S,U,hn,q⟩:=h
  rfl
 ·obtain⟨v,a,nm,O,rfl,hv,S,U,hn,q⟩:=h
  have nd:=Pd.nd
  have hu:=BU hr
  have j:Al 1 _:=hr.mono (by first|decide|omega)
  refine⟨_,(AF (AY (i:=2) nd rfl (Or.inr rfl) (AL B j rfl z t u .nil AX (AA (pv 0) AB)))
   (AH (AN (AS JE (A_ (AA (AM Ad rfl T.len PySem.boot_len (AA (pv 2) AB)) (AA (AS Bq (AM Ad rfl T.len PySem.boot_len (AA (pv 2) AB)) AD) AB))) (Bb (fv:=["_law_steps_here"]) (fs:=[2]) rfl (.of (by rfl)) (Bk (AS JE (pv 1) (A_ (AA (AS QK Ag AD) AB)))) (fun C s0 H0 fp=>GP (AR (GK:DC _ _ (df K true)) (pv 0) (pv 1) rfl)) (fun C s0 H0 fp=>(pv 0))))))),?_⟩
  refine⟨_,rfl,v,a,rfl,hv,S,U,fun L d bs H1 s1 nL fL m=>?_⟩
  have xJ:d.length=bs.length:=by have:=congrArg List.length m.e;simpa using this
  have lb:bs.length<=900:=by
   have:=m.w
   have:=Ak.CV bs
   have:=Ak.Cn bs
   lia
  refine⟨_,rfl,L,_,rfl,.inl (Ap.of fL),_,rfl,L,_,rfl,.inl (Ap.of fL),_,_,rfl,rfl,?_⟩
  refine⟨Ax,fun pA hA=>?_⟩
  rw[List.length_map]
  have sA:=AG.new (o:=.lst [V.int (d.length:Int),V.int ((d.length:Int)+7)]) hA
  have fA:upd H1 pA (.lst [V.int (d.length:Int),V.int ((d.length:Int)+7)]) pA=some (.lst [V.int (d.length:Int),V.int ((d.length:Int)+7)]):=AE
  generalize upd H1 pA (.lst [V.int (d.length:Int),V.int ((d.length:Int)+7)])=H2 at sA fA⊢
  have s2:=s1.trans sA
  refine⟨_,rfl,"x",8,rfl,rfl,⟨by decide+kernel,fun _ _=>by decide+kernel,fun _ _=>by decide+kernel⟩,Bf,fun pX hX=>?_⟩
  generalize Txt.mul "x" 8=I
  have sX:=AG.new (o:=.lst [V.str I]) hX
  have fX:upd H2 pX (.lst [V.str I]) pX=some (.lst [V.str I]):=AE
  generalize upd H2 pX (.lst [V.str I])=H3 at sX fX⊢
  have s3:=s2.trans sX
  refine⟨nm,pX,_,_,rfl,rfl,s3 _ _ hn.at_,fX,Ab (by rw[List.length_map,hn.len];exact(by decide:4+1<=1000)),fun pY hY=>?_⟩
  have e4:O.map V.str++[V.str I]=(O++[I]).map V.str:=by rw[List.map_append];rfl
  rw[e4]
  have ly:(O++[I]).length=5:=by rw[List.length_append,hn.len];rfl
  generalize O++[I]=g at ly⊢
  have sY:=AG.new (o:=.lst (g.map V.str)) hY
  have X:upd H3 pY (.lst (g.map V.str)) pY=some (.lst (g.map V.str)):=AE
  generalize upd H3 pY (.lst (g.map V.str))=H4 at sY X⊢
  have fL4:=sY _ _ (sX _ _ (sA _ _ fL))
  have fA4:=sY _ _ (sX _ _ fA)
  have s4:=s3.trans sY
  have li:∀i,i<g.length->(g.map V.str)[i]?=some (.str (g.getD i "")):=fun i J=>by
   rw[List.getElem?_map,ADr J,List.getD_eq_getElem?_getD,ADr J]
   rfl
  have D:∀{G b:Addr} {N l:List V},H4 G=none->H4 b=some (.lst l)->upd H4 G (.lst N) b=some (.lst l):=fun h e=>by rw[AK (Ac e h)];exact e
  refine⟨pY,rfl,⟨_,Ap.of X⟩,Cv (n:=g.length) (fun i=>.str (g.getD i "")) (fun i=>.str (g.getD i "")) (fun i=> !Pe (.str (g.getD i "")) (d.map kV)) (Ab (by lia)) (fun i G N J c=>⟨_,_,Ap.of (D c X),li i J⟩) (fun i G N v H' J c y=>?_)
   (fun G N c=>⟨_,Ap.of (D c X),by rw[List.length_map];exact Nat.le_refl _⟩) (fun i G N R J c r=>?_) (fun i G N R J c _ r=>⟨_,rfl,r⟩) (fun G c=>?_)⟩
  ·obtain⟨e,y⟩:=y
   have:=y _ (Ap.of (D c X))
   rw[li i J]at this
   exact⟨(ADt this).symm,e⟩
  ·refine⟨_,rfl,_,rfl,L,_,rfl,.inl (Ap.of (D c fL4)),rfl,flat_keys d,_,rfl,?_⟩
   exact r
  ·rw[FU g fun n=> !Pe (.str n) (d.map kV)]
   have sF:=AG.new (o:=.lst ((g.filter fun n=> !Pe (.str n) (d.map kV)).map V.str)) c
   refine⟨pA,G,_,_,rfl,rfl,sF _ _ fA4,AE,Ab ?_,fun pZ hZ=>?_⟩
   ·have:=List.length_filter_le (fun n=> !Pe (.str n) (d.map kV)) g
    simp only[List.length_map,List.length_cons,List.length_nil]
    lia
   ·refine q pZ ([Sum.inl (d.length:Int),Sum.inl ((d.length:Int)+7)]++(g.filter fun n=> !Pe (.str n) (d.map kV)).map Sum.inr) _ ((s4.trans sF).trans (AG.new hZ)) ?_ ?_ ?_
    ·rw[AE,List.map_append,List.map_map]
     rfl
    ·have:=List.length_filter_le (fun n=> !Pe (.str n) (d.map kV)) g
     simp only[List.length_append,List.length_map,List.length_cons,List.length_nil]
     lia
    ·intro k M
     rcases List.mem_append.mp M with M|M
     ·rcases List.mem_cons.mp M with rfl|M
      ·exact m.vm (Int.le_refl _)
      ·rw[List.mem_singleton.mp M];exact m.vm (by lia)
     ·obtain⟨x,hx,rfl⟩:=List.mem_map.mp M
      have:=(List.mem_filter.mp hx).2
      exact m.out (PD (by simpa using this))
end
end By
namespace By
open PySem L2
section
variable{P:Program} {w:World} {K:ADv} [Ar K] {mg:Str->Option Value} {base:Heap}
theorem XS:Ah ["_law_doc_here","_law_path","_law_step"] ["_law_doc_here","_law_path"] (AI Lu):=⟨rfl,rfl,rfl,by decide+kernel,rfl,by decide+kernel,by decide+kernel⟩
theorem ZU {f:Addr} {J:FuncData} (F:Ct K "_law_part" "_law_part" Lu f J) (T:Txt mg):BG P w K mg base CW 1 f J ["_law_doc_here","_law_path"] M':=by
 refine F.ok XS (fun M H Q E h=>?_) (fun N A outer s H M Q E O h=>?_)
 ·obtain⟨v,t,u,p,d,rfl,L,n,g,q⟩:=h
  rfl
 ·obtain⟨v,t,u,p,d,rfl,L,n,g,q⟩:=h
  have nd:=XS.nd
  have R:=BU O
  refine⟨_,(AF (CD PassesOwn.never rfl (MD (pv 1)) (Bh (i:=2) nd rfl (Or.inl rfl)) (AH (AY (i:=0) nd rfl (Or.inl rfl) (DH (AO (r:=B' K) As (pv 0) (pv 2) (fun _ _=>rfl)) (Bx R (pv 0) (pv 2) (fun _ _=>rfl))))))
   (AH (AN (pv 0)))),?_⟩
  refine⟨_,rfl,p,rfl,⟨_,.of n⟩,ME (K:=K) (xs:=d.map kV) (fun i m c=>∃(x:V) (s:Pt) (o:Option V),m=[some x,some (.ref p),o]/\s.sub (d.drop i)=some u/\Val H x s/\c=H) ⟨v,t,none,rfl,g,L,rfl⟩ (fun i m c _ ⟨_,_,_,_,_,_,e⟩=>by subst e;exact .of n) ?_ ?_⟩
  ·rintro i x m c l ⟨y,s,o,rfl,b,z,rfl⟩
   rw[List.getElem?_map]at l
   cases B:d[i]? with
   |none=>rw[B]at l;cases l
   |some k=>
    rw[B]at l
    cases l
    obtain⟨S,U⟩:=ADs B
    rw[List.drop_eq_getElem_cons S,U]at b
    simp only[Pt.sub]at b
    cases C:s.Gu k with
    |none=>rw[C]at b;cases b
    |some r=>
     rw[C]at b
     obtain⟨w,X,Y⟩:=z.Qv C
     have fin:∃(x:V) (s:Pt) (o:Option V),[some w,some (.ref p),some (kV k)]=[some x,some (.ref p),o]/\s.sub (d.drop (i+1))=some u/\Val c x s/\c=c:=⟨w,r,_,rfl,b,X,rfl⟩
     cases Y with
     |pl a xs j D G Z I=>exact .inl ⟨_,rfl,_,rfl,a,_,_,_,D,Z,.inl G,Aq I,fin⟩
     |nm a kvs D G I=>exact .inr ⟨_,rfl,_,rfl,a,w,D,.inl ⟨_,k,G,rfl,I.symm⟩,fin⟩
  ·rintro m c ⟨y,s,o,rfl,b,z,rfl⟩
   rw[List.length_map,List.drop_length]at b
   simp only[Pt.sub,Option.some.injEq]at b
   subst b
   exact⟨_,rfl,q y z⟩
end
end By
namespace By
open PySem L2
section
variable{P:Program} {w:World} {K:ADv} [Ar K] {mg:Str->Option Value} {base:Heap}
theorem SX:Ah ["_law_asks_here","_law_cell_here","_law_names_here","_law_way","_law_number","_law_k","_law_more","_law_cells"] ["_law_asks_here","_law_cell_here","_law_names_here"] (AI H_):=⟨rfl,rfl,rfl,by decide+kernel,rfl,by decide+kernel,by decide+kernel⟩
theorem XT {f:Addr} {fd:FuncData} (F:Ct K "_law_large" "_law_large" H_ f fd) (T:Txt mg) (RB:Df P w K mg base "_law_mix" ["_law_cell_here","_law_k"] 1 Fo):BG P w K mg base CW 2 f fd ["_law_asks_here","_law_cell_here","_law_names_here"] Mh:=by
 obtain⟨Yz,Y_,g,l,p,u⟩:=RB.ex
 refine F.ok SX (fun vs H Q E h=>?_) (fun IV A outer s H vs Q E hr h=>?_)
 ·obtain⟨v,a0,c,nm,ys,rfl,hv,BS,za,da,hn,q⟩:=h
  rfl
 ·obtain⟨v,a0,c,nm,ys,rfl,hv,BS,za,da,hn,q⟩:=h
  have nd:=SX.nd
  have hu:=BU hr
  have d:Al 1 _:=hr.mono (by first|decide|omega)
  refine⟨_,(AF (AY (i:=3) nd rfl (Or.inl rfl) (AS BI (AL u d rfl p g l .nil AX (AA (pv 1) (AA AD AB))) AD))
   (AF (AY (i:=4) nd rfl (Or.inl rfl) (AL u d rfl p g l .nil AX (AA (pv 1) (AA AD AB))))
   (AF (Ai (AR Bl (pv 3) AD (AZ _)) (AH (CD PassesOwn.never rfl (Bc rfl T.range (AA (AS Bq AD (AS BI (pv 4) AD)) AB)) (Bh (i:=5) nd rfl (Or.inl rfl)) (AF (AY (i:=6) nd rfl (Or.inl rfl) (DU Bl (AS BI (AS B_ (AL u d rfl p g l .nil AX (AA (pv 1) (AA AD AB))) (AO (r:=B' K) As (@A_ _ _ _ _ (@AA _ _ _ _ _ (@AD _ _ _ _) (@AA _ _ _ _ _ (@AD _ _ _ _) (@AA _ _ _ _ _ (@AD _ _ _ _) (@AA _ _ _ _ _ (@AD _ _ _ _) (@AA _ _ _ _ _ (@AD _ _ _ _) (@AA _ _ _ _ _ (@AD _ _ _ _) (@AA _ _ _ _ _ (@AD _ _ _ _) (@AA _ _ _ _ _ (@AD _ _ _ _) (@AA _ _ _ _ _ (@AD _ _ _ _) (@AA _ _ _ _ _ (@AD _ _ _ _) AB rfl) rfl) rfl) rfl) rfl) rfl) rfl) rfl) rfl) rfl)) (pv 5) (fun _ _=>rfl))) AD) AD (AZ _)))
   (AH (Ai (AR Bl (AS BI (AS B_ (AL u d rfl p g l .nil AX (AA (pv 1) (AA AD AB))) (AO (r:=B' K) As (@A_ _ _ _ _ (@AA _ _ _ _ _ (@AD _ _ _ _) (@AA _ _ _ _ _ (@AD _ _ _ _) (@AA _ _ _ _ _ (@AD _ _ _ _) (@AA _ _ _ _ _ (@AD _ _ _ _) (@AA _ _ _ _ _ (@AD _ _ _ _) (@AA _ _ _ _ _ (@AD _ _ _ _) (@AA _ _ _ _ _ (@AD _ _ _ _) (@AA _ _ _ _ _ (@AD _ _ _ _) (@AA _ _ _ _ _ (@AD _ _ _ _) (@AA _ _ _ _ _ (@AD _ _ _ _) AB rfl) rfl) rfl) rfl) rfl) rfl) rfl) rfl) rfl) rfl)) (pv 5) (fun _ _=>rfl))) AD) AD (AZ _)) (AH (AY (i:=0) nd rfl (Or.inl rfl) (BL (AA Ag (AA (A_ (AA (pv 0) AB)) (AA (pv 6) AB)))))) (AH (AY (i:=0) nd rfl (Or.inl rfl) (BL (AA Ag (AA (MP (GN (AO (r:=B' K) As (pv 2) (AS BI (pv 5) AD) (fun _ _=>rfl)) (pv 0) MO) rfl rfl (by simp) (by simp)) (AA (A_ AB) (AA (pv 6) AB)))))))))))) AQ)
   (AF (Ai (AR Bl (pv 3) AD (AZ _)) (AF (EN (i:=7) (fv:=["_law_cell_here"]) (fs:=[1]) rfl (.of (by rfl)) nd rfl (Or.inl rfl) (Bc rfl T.range (AA (AS Bq AD (AS BI (pv 4) AD)) AB)) (fun _ _ _ _=>Bi) (fun C s0 H0 fp=>(AO (r:=B' K) As (A_ (AA (BL (AA Ag AB)) (AA (BL (AA Ag (AA (pv 0) AB))) AB))) (AS BI (AS B_ (AL u d rfl p g l .nil AX (AA (pv 1) (AA AD AB))) (AS Bq (pv 0) AD)) AD) (fun _ _=>rfl))))
   (AH (AY (i:=0) nd rfl (Or.inl rfl) (BL (AA Ag (AA (AS JE (pv 7) (A_ (AA (pv 0) AB))) (AA (DU Bl (AS BI (AS B_ (pv 4) AD) AD) AD (AZ _)) AB))))))) AQ)
   (AH (AN (pv 0))))))),?_⟩
  refine⟨_,rfl,c,6,rfl,by decide,fun r6 _ _=>⟨_,_,rfl,rfl,(by show(0:Int)<_;decide),?_⟩⟩
  generalize r6 % 8=wy
  refine⟨_,rfl,c,7,rfl,by decide,fun U _ _=>?_⟩
  dsimp only[Eo]
  refine Mb (t:=Pq _ _ _) (fun σ' H1=>∃(w:V) (b:Ak) (o5 o6:Option V),σ'=[some w,some (.int c),some (.ref nm),some (.int wy),some (.int U),o5,o6,none]/\AG H H1/\Val H1 w b.pt/\b.ok/\b.size<=67/\b.deep<=15/\(wy≠0->b.size<=57/\b.deep<=5)) (fun σ' H1 ⟨w,b,o5,o6,es,s1,vb,bo,bz,bd,bw⟩=>?_) (fun key=>?_)
  rotate_left
  ·refine⟨_,rfl,rfl,_,rfl,Cr (fun h0=>?_) (fun h0=>key _ _ ⟨v,a0,none,none,rfl,AG.refl H,hv,BS,by lia,by lia,fun _=>⟨za,da⟩⟩)⟩
   have wy0:wy=0:=V.int.inj (of_decide_eq_true h0)
   have m5:=Dx U (n:=5) (by decide)
   obtain⟨k5,hk5⟩:∃k:Nat,6+U % 5=(k:Int):=⟨(6+U % 5).toNat,by lia⟩
   have k10:k5<=10:=by lia
   refine⟨_,rfl,_,_,rfl,rfl,(by show(0:Int)<_;decide),_,_,rfl,rfl,?_⟩
   rw[hk5]
   refine⟨k5,rfl,by lia,by lia,Dn (lo:=0) (n:=k5) (fun i σ Hi=>∃(w:V) (b:Ak) (o5 o6:Option V),σ=[some w,some (.int c),some (.ref nm),some (.int wy),some (.int U),o5,o6,none]/\AG H Hi/\Val Hi w b.pt/\b.ok/\b.size<=57+i/\b.deep<=5+i) ⟨v,a0,none,none,rfl,AG.refl H,hv,BS,by lia,by lia⟩ ?_ ?_⟩
   ·rintro i σ Hi hi ⟨w,b,o5,o6,rfl,si,vb,bo,bz,bd⟩
    obtain⟨L,hL⟩:∃L:List V,L=[V.int 1,.int 2,.int 4,.int 8,.int 16,.int 32,.int 64,.int 128,.int 256,.int 512]:=⟨_,rfl⟩
    obtain⟨v4,hJ,X⟩:=GQ (xs:=L) (i:=0+(i:Int)) (by lia) (by rw[hL];simp only[List.length_cons,List.length_nil];lia)
    have vb4:∃m:Int,v4=.int m/\0<m/\m<1073741824:=by
     rw[hL]at X
     simp only[List.mem_cons,List.not_mem_nil,or_false]at X
     rcases X with rfl|rfl|rfl|rfl|rfl|rfl|rfl|rfl|rfl|rfl<;>exact⟨_,rfl,by decide,by decide⟩
    obtain⟨m,rfl,jq,jr⟩:=vb4
    rw[hL]at hJ
    clear X hL
    refine⟨_,rfl,c,8,rfl,by decide,fun r8 _ _=>⟨Ab (show 10<=1000 by decide),fun pl cF=>⟨_,rfl,pl,_,_,_,rfl,rfl,Ap.of AE,hJ,_,_,rfl,rfl,⟨jq,jr⟩,_,_,rfl,rfl,(by show(0:Int)<_;decide),rfl,?_⟩⟩⟩
    have sl:=AG.new (o:=.lst [V.int 1,.int 2,.int 4,.int 8,.int 16,.int 32,.int 64,.int 128,.int 256,.int 512]) cF
    generalize upd Hi pl (.lst [V.int 1,.int 2,.int 4,.int 8,.int 16,.int 32,.int 64,.int 128,.int 256,.int 512])=Hj at sl⊢
    generalize decide (V.int (r8/m % 2)=V.int 1)=mo
    refine⟨_,rfl,c,9,rfl,by decide,fun r9 _ _=>⟨Ab (show 10<=1000 by decide),fun xK nq=>⟨_,rfl,xK,_,_,_,rfl,rfl,Ap.of AE,hJ,_,_,rfl,rfl,⟨jq,jr⟩,_,_,rfl,rfl,(by show(0:Int)<_;decide),rfl,_,rfl,?_⟩⟩⟩
    have iH:=AG.new (o:=.lst [V.int 1,.int 2,.int 4,.int 8,.int 16,.int 32,.int 64,.int 128,.int 256,.int 512]) nq
    generalize upd Hj xK (.lst [V.int 1,.int 2,.int 4,.int 8,.int 16,.int 32,.int 64,.int 128,.int 256,.int 512])=Hk at iH⊢
    have sk:=(si.trans sl).trans iH
    have vk:=(vb.up sl).up iH
    refine Cr (fun _=>?_) (fun _=>?_)
    ·refine⟨_,rfl,Bf,fun e I=>⟨_,rfl,Ab (show 3<=1000 by decide),fun N J=>?_⟩⟩
     have B:=AG.new (o:=.lst [w]) I
     have O:upd Hk e (.lst [w]) e=some (.lst [w]):=AE
     generalize upd Hk e (.lst [w])=Hm at B O J⊢
     have G:=AG.new (o:=.tup [.str "row",.ref e,.bl mo]) J
     refine⟨.ref N,.row [b] mo,_,_,rfl,(sk.trans B).trans G,.tup (BY.of AE) (.cons (.str _) (.cons (.lst (.inl (G _ _ O)) (.cons ((vk.up B).up G) .nil)) (.cons (.bl _) .nil))),⟨bo,trivial⟩,?_,?_⟩
     ·simp only[Ak.size,Ak.AJ];lia
     ·simp only[Ak.deep,Ak.AV];lia
    ·have m4:=Dx (0+(i:Int)) (n:=4) (by decide)
     obtain⟨jj,cb⟩:∃j:Nat,(0+(i:Int)) % 4=(j:Int):=⟨((0+(i:Int)) % 4).toNat,by lia⟩
     obtain⟨y,hy⟩:∃y,ys[jj]?=some y:=⟨_,ADr (by rw[hn.len];lia)⟩
     refine fun e I=>?_
     have B:=AG.new (o:=.dK []) I
     refine⟨_,rfl,_,rfl,_,_,rfl,rfl,(by show(0:Int)<_;decide),nm,_,_,_,rfl,rfl,Ap.of ((sk.trans B) _ _ hn.at_),by rw[cb];exact Aq (by rw[List.getElem?_map,hy];rfl),_,rfl,AE,[(Sum.inr y,w)],rfl,by simp,?_⟩
     have m1:CG [] [((Sum.inr y:Key),w)]=[(Sum.inr y,w)]:=rfl
     rw[m1]
     have xM:AG Hk (upd (upd Hk e (.dK [])) e (.dK [(Sum.inr y,w)])):=B.put I
     have O:upd (upd Hk e (.dK [])) e (.dK [(Sum.inr y,w)]) e=some (.dK [(Sum.inr y,w)]):=AE
     generalize upd (upd Hk e (.dK [])) e (.dK [(Sum.inr y,w)])=Hm at xM O⊢
     refine⟨Nat.zero_le _,fun N J=>?_⟩
     have G:=AG.new (o:=.lst []) J
     have Y:upd Hm N (.lst []) N=some (.lst []):=AE
     generalize upd Hm N (.lst [])=Hn at G Y⊢
     refine⟨_,rfl,Ab (show 4<=1000 by decide),fun p3 eC=>?_⟩
     have M:=AG.new (o:=.tup [.str "table",.ref e,.ref N,.bl mo]) eC
     have t12:=xM.trans G
     refine⟨.ref p3,.tab [y] [b] [] mo,_,_,rfl,(sk.trans t12).trans M,.tup (BY.of AE) (.cons (.str _) (.cons (.BF (ks:=[y]) (.inl (M _ _ (G _ _ O))) rfl (.cons ((vk.up t12).up M) .nil)) (.cons (.lst (.inl (M _ _ Y)) .nil) (.cons (.bl _) .nil)))),?_,?_,?_⟩
     ·simp only[Ak.ok]
      exact⟨rfl,by simp,fun k hk=>by rw[List.mem_singleton.mp hk];exact hn.nb _ (ADu hy),by simp,⟨by simp,.nil,rfl⟩,fun x hx=>(nomatch hx),bo,trivial⟩
     ·simp only[Ak.size,Ak.AJ];lia
     ·simp only[Ak.deep,Ak.AV];lia
   ·rintro σ Hi ⟨w,b,o5,o6,rfl,si,vb,bo,bz,bd⟩
    exact key _ _ ⟨w,b,o5,o6,rfl,si,vb,bo,by lia,by lia,fun z=>absurd wy0 z⟩
  subst es
  refine⟨_,rfl,rfl,_,rfl,Cr (fun h1=>?_) (fun _=>⟨_,rfl,q w b H1 s1 vb bo (by lia) bd⟩)⟩
  have wy1:wy=1:=V.int.inj (of_decide_eq_true h1)
  have bw:=bw (by lia)
  have m4:=Dx U (n:=4) (by decide)
  obtain⟨n4,iI⟩:∃k:Nat,9+U % 4=(k:Int):=⟨(9+U % 4).toNat,by lia⟩
  have n12:n4<=12:=by lia
  refine⟨_,rfl,_,_,rfl,rfl,(by show(0:Int)<_;decide),_,_,rfl,rfl,?_⟩
  rw[iI]
  refine⟨n4,rfl,by lia,by lia,?_⟩
  refine DN none n4 (fun i=>.int (0+(i:Int))) (fun i us S=>∃Z:List Ak,us=Ak.Fh Z/\Ak.HU Z/\Ak.AJ Z<=i/\Ak.AV Z<=1) (by lia) (fun D hD=>⟨[],rfl,trivial,by simp[Ak.AJ],by simp[Ak.AV]⟩) (fun i us S D ws bt hD iv=>iv) (fun l' z=>nomatch z) (fun i us S hi s iv=>hi) (fun i us S v H' hi s iv y=>⟨y.2,y.1⟩) (fun us S s iv=>Nat.le_refl _) (fun i us S R hi bt ⟨Z,e1,e2,e3,e4⟩ lu k=>?_) (fun D S ws us hD bt d2 lu vl ⟨Z,e1,e2,e3,e4⟩=>?_)
  ·refine⟨Bf,fun q1 xN=>?_⟩
   have B:=AG.new (o:=.tup [.str "any"]) xN
   have O:upd S q1 (.tup [.str "any"]) q1=some (.tup [.str "any"]):=AE
   generalize upd S q1 (.tup [.str "any"])=H3 at B O⊢
   refine⟨_,rfl,Ax,fun q2 xO=>?_⟩
   have G:=AG.new (o:=.tup [.str "just",.int (0+(i:Int))]) xO
   have Y:upd H3 q2 (.tup [.str "just",.int (0+(i:Int))]) q2=some (.tup [.str "just",.int (0+(i:Int))]):=AE
   generalize upd H3 q2 (.tup [.str "just",.int (0+(i:Int))])=H4 at G Y⊢
   refine⟨Ax,fun q3 hq3=>?_⟩
   have M:=AG.new (o:=.lst [.ref q1,.ref q2]) hq3
   have f3:upd H4 q3 (.lst [.ref q1,.ref q2]) q3=some (.lst [.ref q1,.ref q2]):=AE
   generalize upd H4 q3 (.lst [.ref q1,.ref q2])=H5 at M f3⊢
   refine⟨_,rfl,c,8,rfl,by decide,fun r8 _ _=>?_⟩
   have m2:=Dx (r8/(0+(i:Int)+1)) (n:=2) (by decide)
   obtain⟨v2,mM,xP⟩:=GQ (xs:=[V.ref q1,V.ref q2]) (i:=r8/(0+(i:Int)+1) % 2) m2.1 m2.2
   refine⟨_,rfl,_,_,rfl,rfl,_,_,rfl,rfl,⟨by lia,by lia⟩,_,_,rfl,rfl,(by show(0:Int)<_;decide),q3,_,_,_,rfl,rfl,Ap.of f3,mM,?_⟩
   have tt:=(B.trans G).trans M
   have add:∀a:Ak,a.ok->a.size=1->a.deep=1->Val (nw S H5) v2 a.pt->R v2 H5:=fun a h1 h2 h3 h4=>k v2 a.pt H5 (.of tt) h4 ⟨Z++[a],by rw[Ak.EY,e1];rfl,Ak.EZ e2 (Ak.Il h1),by rw[Ak.Am,Ak.FV];lia,by rw[Ak.Bm,Ak.FW];lia⟩
   simp only[List.mem_cons,List.not_mem_nil,or_false]at xP
   rcases xP with rfl|rfl
   ·exact add .any trivial rfl rfl (.tup (BY.of (by rw[Av xN];exact(G.trans M) _ _ O)) (.cons (.str _) .nil))
   ·exact add (.Ao (.int (0+(i:Int)))) (by simp only[Ak.ok];exact⟨.one (.int _),trivial,by simp[Pt.size]⟩) rfl rfl (.tup (BY.of (by rw[Av (B.free xO)];exact M _ _ Y)) (.cons (.str _) (.cons (.int _) .nil)))
  ·subst e1
   have s2:=bt.same
   refine⟨_,rfl,_,rfl,Bf,fun e I=>?_⟩
   have B:=AG.new (o:=.lst [w]) I
   have O:upd S e (.lst [w]) e=some (.lst [w]):=AE
   generalize upd S e (.lst [w])=H3 at B O⊢
   have lws:=vl.length
   refine⟨D,e,_,_,rfl,rfl,B _ _ d2,O,Ab (by simp only[List.length_cons,List.length_nil];lia),fun N J=>?_⟩
   have G:=AG.new (o:=.lst (ws++[w])) J
   have Y:upd H3 N (.lst (ws++[w])) N=some (.lst (ws++[w])):=AE
   generalize upd H3 N (.lst (ws++[w]))=H4 at G Y⊢
   refine⟨_,rfl,_,_,rfl,rfl,⟨by decide,by decide⟩,_,_,rfl,rfl,(by show(0:Int)<_;decide),rfl,Ab (show 3<=1000 by decide),fun p3 eC=>?_⟩
   generalize decide (V.int (U/4 % 2)=V.int 1)=mo
   have M:=AG.new (o:=.tup [.str "row",.ref N,.bl mo]) eC
   have tt:=(B.trans G).trans M
   refine⟨_,rfl,q (.ref p3) (.row (Z++[b]) mo) _ ((s1.trans s2).trans tt) (.tup (BY.of AE) (.cons (.str _) (.cons (.lst (.inl (M _ _ Y)) ?_) (.cons (.bl _) .nil)))) (Ak.EZ e2 (Ak.Il bo)) ?_ ?_⟩
   ·rw[Ak.EY]
    exact((vl.up DL).up tt).snoc ((vb.up s2).up tt)
   ·simp only[Ak.size];rw[Ak.Am,Ak.FV];lia
   ·simp only[Ak.deep];rw[Ak.Bm,Ak.FW];lia
end
end By
namespace By
open PySem L2
section
variable{P:Program} {w:World} {K:ADv} [Ar K] {mg:Str->Option Value} {base:Heap}
theorem aa:Ah ["_law_script","_law_names_here","_law_drawn","_law_asks_here","_law_cells","_law_docs","_law_kept","_law_path","_law_there","_law_told_here","_law_due","_law_doc_here","_law_step"] ["_law_script"] (AI NA):=⟨rfl,rfl,rfl,by decide+kernel,rfl,by decide+kernel,by decide+kernel⟩
theorem c_ {f:Addr} {fd:FuncData} (F:Ct K "law" "law" NA f fd) (T:Txt mg) (Y:Df P w K mg base "good_form" ["asks"] 7 Im) (ZV:Df P w K mg base "asks_at" ["asks","path"] 8 KI) (iJ:Df P w K mg base "_law_cell" ["_law_script","_law_k"] 1 (QP K)) (dA:Df P w K mg base "_law_names" ["_law_cell_here"] 2 Jf) (PV:Df P w K mg base "_law_copy" ["_law_thing"] 50 (Dd 50)) (W_:Df P w K mg base "_law_ruin" ["_law_thing"] 50 (Gs 50)) (XA:Df P w K mg base "_law_asks" ["_law_cells","_law_deep","_law_names_here"] 10 (Jg 10)) (cq:Df P w K mg base "_law_fit" ["_law_asks_here","_law_cells","_law_names_here"] 25 (KO 25)) (XM:Df P w K mg base "_law_lets" ["_law_asks_here","_law_doc_here"] 20 (FZ 20)) (ZW:Df P w K mg base "_law_is_good" ["_law_asks_here"] 20 (FH 20)) (iK:Df P w K mg base "_law_told" ["_law_asks_here","_law_path"] 25 (KL 25)) (ZX:Df P w K mg base "_law_beyond" ["_law_asks_here","_law_names_here"] 2 KN) (iL:Df P w K mg base "_law_part" ["_law_doc_here","_law_path"] 1 M') (dB:Df P w K mg base "_law_large" ["_law_asks_here","_law_cell_here","_law_names_here"] 2 Mh):BG P w K mg base CW 60 f fd ["_law_script"] (N_ K):=by
 obtain⟨eI,eJ,Z,UD,UE,UG⟩:=Y.ex
 obtain⟨kC,kD,m,B,D,G⟩:=ZV.ex
 obtain⟨xQ,xR,J,L,M,N⟩:=iJ.ex
 obtain⟨fNames,nr,dC,dD,dE,dF⟩:=dA.ex
 obtain⟨aT,aU,SO,SQ,SR,SU⟩:=PV.ex
 obtain⟨gx,gy,iM,iN,iO,iP⟩:=W_.ex
 obtain⟨g_,hB,SI,SJ,SK,SM⟩:=XA.ex
 obtain⟨nG,nH,XC,XD,XE,XF⟩:=cq.ex
 obtain⟨iC,iD,Ly,Lz,L_,L'⟩:=XM.ex
 obtain⟨ZQ,ZR,ZY,ZZ,NI,NJ⟩:=ZW.ex
 obtain⟨iF,iG,iQ,iR,XQ,XR⟩:=iK.ex
 obtain⟨kE,kF,Za,Zb,Zc,Zd⟩:=ZX.ex
 obtain⟨xS,xT,iS,iT,iU,iV⟩:=iL.ex
 obtain⟨nu,nv,dG,dH,dI,dJ⟩:=dB.ex
 refine F.ok aa (fun vs H Q E h=>?_) (fun IV A outer s H vs Q E S h=>?_)
 ·obtain⟨a,ns,rfl,hS,hlen,q⟩:=h
  rfl
 ·obtain⟨a,ns,rfl,hS,hlen,q⟩:=h
  have nd:=aa.nd
  have hu:=BU S
  have U:Al 7 _:=S.mono (by first|decide|omega)
  have d:Al 8 _:=S.mono (by first|decide|omega)
  have I:Al 1 _:=S.mono (by first|decide|omega)
  have Ze:Al 2 _:=S.mono (by first|decide|omega)
  have NH:Al 50 _:=S.mono (by first|decide|omega)
  have dM:Al 50 _:=S.mono (by first|decide|omega)
  have dO:Al 10 _:=S.mono (by first|decide|omega)
  have PZ:Al 25 _:=S.mono (by first|decide|omega)
  have O:Al 20 _:=S.mono (by first|decide|omega)
  have XU:Al 20 _:=S.mono (by first|decide|omega)
  have dP:Al 25 _:=S.mono (by first|decide|omega)
  have XW:Al 2 _:=S.mono (by first|decide|omega)
  have dQ:Al 1 _:=S.mono (by first|decide|omega)
  have Zf:Al 2 _:=S.mono (by first|decide|omega)
  refine⟨_,(AF (AY (i:=1) nd rfl (Or.inl rfl) (AL dF Ze rfl dE dC dD .nil AX (AA (AL N I rfl M J L .nil AX (AA (pv 0) (AA AD AB))) AB)))
   (AF (AY (i:=2) nd rfl (Or.inl rfl) (AL SM dO rfl SK SI SJ .nil AX (AA (Bb (fv:=["_law_script"]) (fs:=[0]) rfl (.of (by rfl)) (Bc rfl T.range (AA AD AB)) (fun _ _ _ _=>Bi) (fun C s0 H0 fp=>(AL N I rfl M J L .nil AX (AA (pv 1) (AA (AS Bq AD (pv 0)) AB))))) (AA AD (AA (pv 1) AB)))))
   (AF (AY (i:=3) nd rfl (Or.inl rfl) (AL dJ Zf rfl dI dG dH .nil AX (AA (pv 2) (AA (AL N I rfl M J L .nil AX (AA (pv 0) (AA AD AB))) (AA (pv 1) AB)))))
   (AF (EN (i:=4) (fv:=["_law_script"]) (fs:=[0]) rfl (.of (by rfl)) nd rfl (Or.inl rfl) (Bc rfl T.range (AA AD AB)) (fun _ _ _ _=>Bi) (fun C s0 H0 fp=>(AL N I rfl M J L .nil AX (AA (pv 1) (AA (AS Bq AD (pv 0)) AB)))))
   (AF (AY (i:=5) nd rfl (Or.inl rfl) (A_ (AA (AL XF PZ rfl XE XC XD .nil AX (AA (pv 3) (AA (DD (r:=Xn K) MM (pv 4) FJ (DV AD)) (AA (pv 1) AB)))) (AA (AL XF PZ rfl XE XC XD .nil AX (AA (pv 3) (AA (DD (r:=Xn K) MM (pv 4) (DV AD) FJ) (AA (pv 1) AB)))) AB))))
   (AF (AY (i:=6) nd rfl (Or.inl rfl) (AL SU NH rfl SR SO SQ .nil AX (AA (pv 3) AB)))
   (AF (CD PassesOwn.never rfl (Bk (AL XR dP rfl XQ iQ iR .nil AX (AA (pv 3) (AA (BL AB) AB)))) (av rfl (NR (Bh (i:=7) nd rfl (Or.inl rfl)) (NR (Bh (i:=8) nd rfl (Or.inl rfl)) Xe))) (AF (AY (i:=9) nd rfl (Or.inl rfl) (J_ (AL G d rfl D m B .nil AX (AA (pv 3) (AA (pv 7) AB)))))
   (AF (Ai (PW.pt (pw_or (DA (BA (AL NJ XU rfl NI ZY ZZ .nil AX (AA (pv 9) AB)))) (pw_or1 (AR (WT (Al.units S):DC _ _ Yh) (pv 9) (J_ (AL UG U rfl UE Z UD .nil AX (AA (pv 8) AB))) (AZ _))))) (AH (AN Cg)) AQ)
   (AF (AY (i:=10) nd rfl (Or.inl rfl) (AL SU NH rfl SR SO SQ .nil AX (AA (pv 9) AB)))
   (AF (CD PassesOwn.never rfl (Bk (pv 5)) (Bh (i:=11) nd rfl (Or.inl rfl)) (AH (Ai (PW.pt (pw_or (DA (BA (AL L' O rfl L_ Ly Lz .nil AX (AA (pv 9) (AA (AL iV dQ rfl iU iS iT .nil AX (AA (pv 11) (AA (pv 7) AB))) AB))))) (pw_or1 (AR RL (AL L' O rfl L_ Ly Lz .nil AX (AA (pv 9) (AA (AO (r:=B' K) As (pv 5) AD (fun _ _=>rfl)) AB))) (AL L' O rfl L_ Ly Lz .nil AX (AA (pv 8) (AA (AO (r:=B' K) As (pv 5) AD (fun _ _=>rfl)) AB))) (AZ _))))) (AH (AN Cg)) AQ)))
   (AF (Cs (AL iP dM rfl iO iM iN .nil AX (AA (pv 9) AB)))
   (AF (Ai (AR (WT (Al.units S):DC _ _ Yh) (J_ (AL G d rfl D m B .nil AX (AA (pv 3) (AA (pv 7) AB)))) (pv 10) (AZ _)) (AH (AN Cg)) AQ)
   (AH (CD PassesOwn.never rfl (Bk (AL Zd XW rfl Zc Za Zb .nil AX (AA (pv 8) (AA (pv 1) AB)))) (Bh (i:=12) nd rfl (Or.inl rfl)) (AH (Ai (PW.pt (pw_or (AR RM (J_ (AL G d rfl D m B .nil AX (AA (pv 3) (AA (AS RU (pv 7) (BL (AA (pv 12) AB))) AB)))) EI (AZ _)) (pw_or1 (AR RM (J_ (AL G d rfl D m B .nil AX (AA (pv 3) (AA (AS RU (pv 7) (BL (AA (pv 12) (AA AD AB)))) AB)))) EI (AZ _))))) (AH (AN Cg)) AQ)))))))))))
   (AH (AN (DU (WS (Al.units S):DC _ _ Yg) (pv 3) (pv 6) (AZ _))))))))))),?_⟩
  refine⟨_,rfl,a,ns,0,rfl,hS,fun c0 _=>⟨c0,rfl,fun nm ys H1 s1 nn hn=>?_⟩⟩
  refine⟨14,rfl,by decide,by decide,CQ (n:=14) (fun i=>.int (0+(i:Int))) (fun _ v=>∃z:Int,v=.int z) (by decide) (fun i H2 hi s2=>hi) (fun i H2 v H' hi s2 y=>⟨y.2,y.1⟩) (fun H2 s2=>Nat.le_refl _) (fun i H2 R hi s2 r=>⟨_,rfl,_,rfl,_,_,rfl,rfl,a,ns,1+i,(by show[V.ref a,V.int (1+(0+(i:Int)))]=_;simp),(s1.trans s2).seq hS,fun c _=>r _ H2 (AG.refl _) ⟨c,rfl⟩⟩) (fun D1 H2 vs1 ny s2 d1 lv1 ov1=>?_)⟩
  obtain⟨XG,rfl⟩:=ints_of ov1
  rw[List.length_map]at lv1
  have D1n:nm≠D1:=fun z=>by rw[<-z,hn.at_]at ny;cases ny
  refine⟨_,rfl,D1,4,nm,XG,ys,rfl,by decide,d1,by lia,D1n,hn.up s2,fun v1 a1 ABB H3 bt3 hl3 le3 v3 ok3 vh dp3=>?_⟩
  have s13:AG H1 H3:=bt3.over s2 ny
  have S3:=s1.trans s13
  have V1:Val H3 v1 a1.pt:=v3.up DL
  refine⟨_,rfl,_,rfl,a,ns,0,rfl,S3.seq hS,fun c1 _=>⟨_,rfl,v1,a1,c1,nm,ys,rfl,V1,ok3,by lia,by lia,hn.up s13,fun w b H4 s4 vb bo bz bd=>?_⟩⟩
  have S4:=S3.trans s4
  have iI:=(hn.up s13).up s4
  have bG:=Ak.gJ b bo
  have bw:=Ak.aF b bo
  have bd2:=Ak.aG b bo
  have bj:=Ak.aK b bo
  have bs:=Ak.WW b bo
  have lS:=fun{Hx:Hp} (z:AG H4 Hx)=>(S4.trans z)
  refine⟨20,rfl,by decide,by decide,CQ (n:=20) (fun i=>.int (0+(i:Int))) (fun _ v=>∃z:Int,v=.int z) (by decide) (fun i H2 hi s2=>hi) (fun i H2 v H' hi s2 y=>⟨y.2,y.1⟩) (fun H2 s2=>Nat.le_refl _) (fun i H2 R hi s2 r=>⟨_,rfl,_,rfl,_,_,rfl,rfl,a,ns,15+i,(by show[V.ref a,V.int (15+(0+(i:Int)))]=_;simp),(S4.trans s2).seq hS,fun c _=>r _ H2 (AG.refl _) ⟨c,rfl⟩⟩) (fun D2 H5 vs2 hD2 s5 d2 gg ov2=>?_)⟩
  obtain⟨ZM,rfl⟩:=ints_of ov2
  rw[List.length_map]at gg
  have xU:=iI.up s5
  have vb5:=vb.up s5
  refine⟨_,rfl,_,rfl,10,rfl,D2,_,rfl,Ap.of d2,fun L1 iW=>?_⟩
  obtain⟨c1,e1,l1⟩:=Ll ZM none (some 10)
  rw[e1]
  have sL:=AG.new (o:=.lst (c1.map V.int)) iW
  have fL:upd H5 L1 (.lst (c1.map V.int)) L1=some (.lst (c1.map V.int)):=AE
  generalize upd H5 L1 (.lst (c1.map V.int))=H6 at sL fL⊢
  have nL1:nm≠L1:=fun z=>by rw[<-z,xU.at_]at iW;cases iW
  refine⟨_,rfl,w,b,L1,nm,c1,ys,rfl,vb5.up (OX sL iW),bo,by lia,by lia,fL,by lia,nL1,xU.up sL,fun x0 t0 ABH H7 bt7 hl7 le7 v7 kG zt0 pt0 wt0 lt0=>?_⟩
  have s57:AG H5 H7:=bt7.over sL iW
  have s47:=s5.trans s57
  refine⟨_,rfl,_,rfl,10,rfl,D2,_,rfl,Ap.of (s57 _ _ d2),fun M2 iX=>?_⟩
  obtain⟨c2,e2,l2⟩:=Ll ZM (some 10) none
  rw[e2]
  have sM:=AG.new (o:=.lst (c2.map V.int)) iX
  have fM:upd H7 M2 (.lst (c2.map V.int)) M2=some (.lst (c2.map V.int)):=AE
  generalize upd H7 M2 (.lst (c2.map V.int))=H8 at sM fM⊢
  have xV:=iI.up s47
  have nL2:nm≠M2:=fun z=>by rw[<-z,xV.at_]at iX;cases iX
  refine⟨_,rfl,w,b,M2,nm,c2,ys,rfl,(vb.up s47).up (OX sM iX),bo,by lia,by lia,fM,by lia,nL2,xV.up sM,fun x1 t1 ABM H9 bt9 hl9 le9 v9 dt1 zt1 pt1 wt1 mN=>⟨Ax,fun p5 UH=>?_⟩⟩
  have s79:AG H7 H9:=bt9.over sM iX
  have s49:=s47.trans s79
  have kH:=AG.new (o:=.lst [x0,x1]) UH
  have xW:upd H9 p5 (.lst [x0,x1]) p5=some (.lst [x0,x1]):=AE
  generalize upd H9 p5 (.lst [x0,x1])=HD at kH xW⊢
  have xX:=s49.trans kH
  have vx0:Val HD x0 t0:=((v7.up DL).up s79).up kH
  have vx1:Val HD x1 t1:=(v9.up DL).up kH
  have xY:=vb.up xX
  have dpb:=Ak.WC b
  have nb:=Ak.Jk b bG (by lia)
  have eb:=Pt.FD _ (Pt.Ju _ nb)
  refine⟨_,rfl,w,b.pt,rfl,xY,nb,by lia,fun wK HF sF vK=>?_⟩
  have vKF:=vK.up DL
  have xZ:=xY.up sF
  clear vK
  refine⟨_,rfl,Nat.zero_le _,fun pE hE=>?_⟩
  have sE:=AG.new (o:=.tup []) hE
  have fE:upd HF pE (.tup []) pE=some (.tup []):=AE
  generalize upd HF pE (.tup [])=HG at sE fE⊢
  refine⟨HG,w,b,pE,[],rfl,AG.refl _,xZ.up sE,bG,bs,by lia,fE,by simp only[List.length_nil];lia,by lia,fun DT ws HT sT nT fT lT xa=>?_⟩
  have kK:=sE.trans sT
  have n_:=sF.trans kK
  have xb:=xZ.up kK
  have vKT:=vKF.up kK
  have hnT:=((iI.up xX).up sF).up kK
  have kL:=n_ _ _ xW
  have dR:=vx0.up n_
  have oA:=vx1.up n_
  have ta:∀w∈ws,We (K:=K) HT b [] w:=fun w hw=>(xa w hw).up (QZ (AG.refl _) sT)
  clear xa
  refine⟨DT,rfl,⟨_,Ap.of fT⟩,Ci (K:=K) (xs:=ws) (fun j σ Hj=>∃(o7 o8 o9 o10 o11 o12:Option V),σ=[some (.ref a),some (.ref nm),some v1,some w,some (.ref D2),some (.ref p5),some wK,o7,o8,o9,o10,o11,o12]/\AG HT Hj) ⟨none,none,none,none,none,none,rfl,AG.refl _⟩ (fun j σ Hj _ ⟨_,_,_,_,_,_,_,sj⟩=>Ap.of (sj _ _ fT)) ?_ ?_⟩
  rotate_left
  ·rintro σ HZ ⟨o7,o8,o9,o10,o11,o12,rfl,sZ⟩
   have nbb:∀c,b.pt≠.bl c:=fun c z=>by obtain⟨ps,eps⟩:=Ak.WZ b;rw[eps]at z;cases z
   refine⟨_,rfl,_,rfl,b.pt,b.pt,xb.up sZ,vKT.up sZ,nbb,.inr eb,by lia,?_⟩
   rw[eb]
   exact q _
  rintro j x σ HJ hx ⟨o7,o8,o9,o10,o11,o12,rfl,sJ⟩
  obtain⟨tt,p,u,r,c,rfl,ftt,aZ,hc,vu⟩:=(ta x (ADu hx)).up sJ
  rw[List.nil_append]at aZ
  obtain⟨cG,Pf,cw,cd⟩:=Ak.Mz bG bs hc
  refine⟨tt,_,rfl,.of ftt,rfl,_,_,rfl,_,_,rfl,?_⟩
  refine⟨rfl,?_⟩
  have kM:=xb.up sJ
  have hnJ:=hnT.up sJ
  refine⟨_,rfl,_,rfl,w,b,p,r,rfl,kM,bG,bs,by lia,aZ,fun c' tw g kN hc' sG0 vG gd kfG=>?_,fun z=>absurd (hc.symm.trans z) (fun z=>nomatch z)⟩
  have:c'=c:=ADt (hc'.symm.trans hc)
  subst this
  have TG:=Told.of sG0 vG kfG
  obtain⟨gG,gw,gdp⟩:=gd.keeps cG
  have gk:=gd.Pj cG Pf
  have xc:=Ak.My g
  have xf:=Ak.My c'
  have xg:=Ak.Gf g
  have xh:=Ak.Gf c'
  have dpg:=Ak.WC g
  have ng:=Ak.Jk g gG (by lia)
  have eg:=Pt.FD _ (Pt.Ju _ ng)
  obtain⟨ts,X⟩:=Ak.WZ g
  obtain⟨HL,kO⟩:∃HL,HL=FE HJ kN:=⟨_,rfl⟩
  rw[<-kO]
  have kP:AG HJ HL:=by rw[kO];exact TG.s
  have pG:WX (nw HJ kN) HL:=by rw[kO];exact TG.p
  have kQ:∀{H':Hp},AG HL H'->Val H' tw g.pt:=fun s=>(pG.up s).val vG
  refine⟨_,rfl,nw HJ kN,tw,g,rfl,pG,vG,gG,gk,by lia,by lia,fun HM sM=>⟨_,rfl,BJ ?_⟩⟩
  have sJM:=kP.trans sM
  refine⟨_,rfl,_,rfl,HM,u,c',rfl,AG.refl _,vu.up sJM,cG,by lia,fun ow og HA0 sA0 vA od kfA=>?_⟩
  have:og=g:=Ak.Good.one od gd
  subst this
  have TA:=Told.of sA0 vA kfA
  have xi:=TA.val (AG.refl _)
  have sA:=TA.s
  generalize FE HM HA0=HA at xi sA⊢
  refine⟨ts,ts,by rw[<-X];exact kQ (sM.trans sA),by rw[<-X];exact xi,by rw[<-X];exact eg,by rw[<-X];lia,_,rfl,BJ ?_⟩
  have kR:=sM.trans sA
  have sJA:=kP.trans kR
  refine⟨_,rfl,tw,og.pt,rfl,kQ kR,ng,by lia,fun dw HI sI vI=>?_⟩
  have vII:=vI.up DL
  have oB:=kR.trans sI
  have oC:=kP.trans oB
  have oE:=sJ.trans oC
  refine⟨_,rfl,p5,rfl,⟨_,Ap.of (oE _ _ kL)⟩,Ci (K:=K) (xs:=[x0,x1]) (fun i σ Hi=>∃(o11:Option V),σ=[some (.ref a),some (.ref nm),some v1,some w,some (.ref D2),some (.ref p5),some wK,some (.ref p),some u,some tw,some dw,o11,o12]/\AG HI Hi) ⟨o11,rfl,AG.refl _⟩ (fun i σ Hi _ ⟨_,_,si⟩=>Ap.of (si _ _ (oE _ _ kL))) ?_ ?_⟩
  ·rintro i x σ Hi hx ⟨o11,rfl,si⟩
   have xk:=oE.trans si
   have xl:=oB.trans si
   have dx:∃t:Pt,Val HT x t/\t.doc/\t.size<=10*b.size/\b.lets t=true:=by
    rcases List.mem_cons.mp (ADu hx)with rfl|h
    ·exact⟨t0,dR,kG,zt0,lt0⟩
    ·rw[List.mem_singleton.mp h];exact⟨t1,oA,dt1,zt1,mN⟩
   obtain⟨t,vt,dt,zt,lt⟩:=dx
   obtain⟨ux,hux,xm,zux,lux⟩:=Ak.PB bG bs dt lt hc
   refine⟨_,rfl,_,rfl,_,rfl,x,t,ux,p,r,rfl,vt.up xk,aZ.up (oC.trans si),hux,fun wx vx=>?_⟩
   refine⟨tw,wx,og,ux,rfl,kQ xl,vx,gG,xm,by lia,by lia,by lia,by lia,fun Hk sk=>?_⟩
   refine⟨_,rfl,Aj (by rw[gd.lets cG xm,lux];rfl) ?_⟩
   have kS:=xk.trans sk
   have sLk:=xl.trans sk
   have sJk:=(oC.trans si).trans sk
   refine⟨_,rfl,_,rfl,p5,_,0,x0,rfl,rfl,Ap.of (kS _ _ kL),Cw,tw,x0,og,t0,rfl,kQ sLk,dR.up kS,gG,kG,by lia,by lia,by lia,by lia,fun Hl sl=>?_⟩
   exact⟨_,rfl,_,rfl,p5,_,0,x0,rfl,rfl,Ap.of (sl _ _ (kS _ _ kL)),Cw,u,x0,c',t0,rfl,(vu.up sJk).up sl,(dR.up kS).up sl,cG,kG,by lia,by lia,by lia,by lia,fun Hm sm=>⟨rfl,_,rfl,Aj (by rw[gd.lets cG kG];simp) ⟨_,rfl,((si.trans sk).trans sl).trans sm⟩⟩⟩
  rintro σ HH ⟨oF,rfl,xn⟩
  have xo:=oB.trans xn
  have sJH:=kP.trans xo
  have Ek:=Pt.Ov og.pt
  have psz:=Ak.R_ og gG
  refine⟨_,rfl,nw HJ kN,tw,og.pt,0,rfl,TG.k,vG,Pt.Ju _ ng,by lia,by lia,Wn.of (pG.up xo) _,fun HN wn fr=>?_⟩
  have oH:AG HJ HN:=TG.out fr sJH fun b x e z=>by rw[e]at z;cases z
  have dN:AG (nw HA HI) HN:=TG.past (by rw[<-kO];exact kR) fr (DL.trans xn)
  refine⟨_,rfl,_,rfl,w,b,p,r,rfl,kM.up oH,bG,bs,by lia,aZ.up oH,fun c2 w3 g3 HP0 hc2 sP0 vP d3 kfP=>?_,fun z=>absurd (hc.symm.trans z) (fun z=>nomatch z)⟩
  have:c2=c':=ADt (hc2.symm.trans hc)
  subst this
  have:g3=og:=Ak.Good.one d3 gd
  subst this
  have TP:=Told.of sP0 vP kfP
  have xp:=TP.val (AG.refl _)
  have sP:=TP.s
  generalize FE HN HP0=HP at xp sP⊢
  refine⟨_,rfl,ts,ts,by rw[<-X];exact xp,by rw[<-X];exact(vI.up dN).up sP,by rw[<-X];exact eg,by rw[<-X];lia,_,rfl,BJ ?_⟩
  have oI:=oH.trans sP
  refine⟨_,rfl,_,rfl,u,c2,nm,ys,rfl,vu.up oI,cG,by lia,hnJ.up oI,fun DB kb HB sB fB lB stB=>?_⟩
  have xq:=oI.trans sB
  refine⟨DB,rfl,⟨_,Ap.of fB⟩,Ci (K:=K) (xs:=kb.map kV) (fun i σ Hi=>∃(o12:Option V),σ=[some (.ref a),some (.ref nm),some v1,some w,some (.ref D2),some (.ref p5),some wK,some (.ref p),some u,some tw,some dw,oF,o12]/\AG HB Hi) ⟨o12,rfl,AG.refl _⟩ (fun i σ Hi _ ⟨_,_,si⟩=>Ap.of (si _ _ fB)) ?_ ?_⟩
  rotate_left
  ·rintro σ HZ ⟨oJ,rfl,sZ⟩
   exact⟨_,_,_,_,_,_,rfl,(sJ.trans xq).trans sZ⟩
  rintro i x σ Hi hx ⟨oJ,rfl,si⟩
  have oK:=xq.trans si
  rw[List.getElem?_map]at hx
  cases hk:kb[i]? with
  |none=>rw[hk]at hx;cases hx
  |some k=>
   rw[hk]at hx
   cases hx
   have stN:=stB k (ADu hk)
   have no:∀l:List Key,b.sub (r++k::l)=none:=fun l=>by
    rw[Ak.Ed,hc]
    show c2.sub (k::l)=none
    simp only[Ak.sub]
    rw[stN]
    rfl
   refine⟨_,rfl,_,rfl,_,rfl,Bf,fun pk kB=>?_⟩
   have s1:=AG.new (o:=.tup [kV k]) kB
   refine⟨p,pk,_,_,rfl,rfl,s1 _ _ (aZ.up oK),AE,Ab (by simp only[List.length_map,List.length_singleton];lia),fun p6 H6 s6 f6=>?_⟩
   have s06:=s1.trans s6
   refine⟨w,b,p6,r++[k],rfl,(kM.up oK).up s06,bG,bs,by lia,by show H6 p6=_;rw[f6,List.map_append];rfl,fun _ _ _ _ z=>absurd ((no []).symm.trans z) (fun z=>nomatch z),fun _ H7 s7 _=>?_⟩
   have s07:=(s06.trans s7).FE
   generalize FE Hi H7=H8 at s07⊢
   have xr:=oK.trans s07
   refine⟨rfl,_,rfl,BJ ?_⟩
   refine⟨_,rfl,_,rfl,_,rfl,Ax,fun pl cF=>?_⟩
   have s9:=AG.new (o:=.tup [kV k,.int 0]) cF
   refine⟨p,pl,_,_,rfl,rfl,s9 _ _ (aZ.up xr),AE,Ab (by simp only[List.length_map,List.length_cons,List.length_nil];lia),fun p10 H10 s10 f10=>?_⟩
   have s810:=s9.trans s10
   refine⟨w,b,p10,r++[k,Sum.inl 0],rfl,(kM.up xr).up s810,bG,bs,by lia,by show H10 p10=_;rw[f10,List.map_append];rfl,fun _ _ _ _ z=>absurd ((no _).symm.trans z) (fun z=>nomatch z),fun _ yf s11 _=>?_⟩
   exact⟨rfl,_,rfl,BJ ⟨_,rfl,(si.trans s07).trans (s810.trans s11).FE⟩⟩
end
end By
namespace By
open PySem L2
theorem EG (us:List Value) (h:us.length=1):∃a,us=[a]:=by
 rcases us with _|⟨a,us⟩<;>simp only[List.length_cons,List.length_nil]at h<;>try omega
 rcases us with _|⟨y,us⟩<;>simp only[List.length_cons,List.length_nil]at h<;>try omega
 exact⟨a,rfl⟩
theorem Dh (us:List Value) (h:us.length=2):∃a b,us=[a,b]:=by
 rcases us with _|⟨a,us⟩<;>simp only[List.length_cons,List.length_nil]at h<;>try omega
 rcases us with _|⟨b,us⟩<;>simp only[List.length_cons,List.length_nil]at h<;>try omega
 rcases us with _|⟨y,us⟩<;>simp only[List.length_cons,List.length_nil]at h<;>try omega
 exact⟨a,b,rfl⟩
theorem MA (us:List Value) (h:us.length=3):∃a b c,us=[a,b,c]:=by
 rcases us with _|⟨a,us⟩<;>simp only[List.length_cons,List.length_nil]at h<;>try omega
 rcases us with _|⟨b,us⟩<;>simp only[List.length_cons,List.length_nil]at h<;>try omega
 rcases us with _|⟨c,us⟩<;>simp only[List.length_cons,List.length_nil]at h<;>try omega
 rcases us with _|⟨y,us⟩<;>simp only[List.length_cons,List.length_nil]at h<;>try omega
 exact⟨a,b,c,rfl⟩
theorem all_mk {l:PySem.W.OpenLaw} {w:World} {K:ADv} {h:Heap} {mg:Str->Option Value} {fa f1 f2 f3 f4 f5 f6 f7 f8 f9 f10 f11 f12 V f14 f15 f16 f17 f18 f19 f20 f21 f22 f23 f24 f25 f26 f27 f28 f29 f30 f31 f32 f33 f34:Addr} (X:K.In h) (G:h.Ns mainGlobals mg) (hfa:mg "law"=some (.ref fa))
  {od1 an1 od2 an2 od3 an3 od4 an4 od5 an5 od6 an6 od7 an7 od8 an8 od9 an9 oM oN oO oP oQ oR oS oU oV oW oX oY oZ oe oh oj om oo oq oy oz o_ pC pF pH pJ pK pM pN pO pP pQ pR pU pV pW pd pf ph pj pq pw pz p_ qA qB qC qD qE iY:Option Addr} {sl1 iH sl3 sl4 sl5 sl6 sl7 sl8 sl9 qF qG qH qI qJ qK qL qM qN qO qP qQ qR qS qT qU qV qW qX qY qZ qa qb qc qd:Array (Option Value)} {oc1 kV1 dc1 pm1 xt ct1 oc2 kV2 eH pm2 xu ct2 oc3 kV3 dc3 pm3 xw ct3 oc4 kV4 dc4 pm4 xx ct4 oc5 kV5 dc5 pm5 xy ct5 oc6 kV6 dc6 pm6 x_ ct6 oc7 kV7 dc7 pm7 yA ct7 oc8 kV8 dc8 pm8 yB ct8 oc9 kV9 dc9 pm9 yC ct9 qe qf qg qh iZ qi qj qk ql qm ia qo qp qq qr qt ib qu qv qw qx qy ie qz q_ rA rB rC ig rD rE rF rG rH ij rJ rK rL rM rN ip rO rP rQ rR rS iq rT rV rW rX rY ir rZ rg rh ri rj iu rk rm ro rq rx iw ry rz r_ sH sN iy sQ sR sS sU sV iz sW sd sf sg sh i_ sq sr su sy s_ i' tD tE tF tG tH jA tJ tK tO tP tQ jB tR tS tU tV tW jC tX tY tZ tj tm jD t_ uA uB uC uD jE uE uF uG uH uI jF uJ uK uL uM uN jG uO uP uQ uR uS jH uT uU uV uW uX jI uY uZ jJ jK jL I jM:Value}
  (a1:PySem.W.nsIn K mainGlobals "gathered"=some (some (.ref f1))) (l1:K.lookup f1=some ⟨oc1,od1,.func (PySem.W.fnOf "gathered" "gathered" (Af Cy) (Ae Cy) (AI Cy) .none kV1 dc1 pm1 an1 xt ct1),sl1⟩) (c1:PySem.W.codeIn K xt "gathered"=true) (k1:PySem.W.keepIn K (.ref f1)=true)
  (a2:PySem.W.nsIn K mainGlobals "folded"=some (some (.ref f2))) (l2:K.lookup f2=some ⟨oc2,od2,.func (PySem.W.fnOf "folded" "folded" (Af Fb) (Ae Fb) (AI Fb) .none kV2 eH pm2 an2 xu ct2),iH⟩) (c2:PySem.W.codeIn K xu "folded"=true) (k2:PySem.W.keepIn K (.ref f2)=true)
  (a3:PySem.W.nsIn K mainGlobals "steps_of"=some (some (.ref f3))) (l3:K.lookup f3=some ⟨oc3,od3,.func (PySem.W.fnOf "steps_of" "steps_of" (Af DQ) (Ae DQ) (AI DQ) .none kV3 dc3 pm3 an3 xw ct3),sl3⟩) (c3:PySem.W.codeIn K xw "steps_of"=true) (k3:PySem.W.keepIn K (.ref f3)=true)
  (a4:PySem.W.nsIn K mainGlobals "inner_of"=some (some (.ref f4))) (l4:K.lookup f4=some ⟨oc4,od4,.func (PySem.W.fnOf "inner_of" "inner_of" (Af EE) (Ae EE) (AI EE) .none kV4 dc4 pm4 an4 xx ct4),sl4⟩) (c4:PySem.W.codeIn K xx "inner_of"=true) (k4:PySem.W.keepIn K (.ref f4)=true)
  (a5:PySem.W.nsIn K mainGlobals "outer_copy"=some (some (.ref f5))) (l5:K.lookup f5=some ⟨oc5,od5,.func (PySem.W.fnOf "outer_copy" "outer_copy" (Af Cb) (Ae Cb) (AI Cb) .none kV5 dc5 pm5 an5 xy ct5),sl5⟩) (c5:PySem.W.codeIn K xy "outer_copy"=true) (k5:PySem.W.keepIn K (.ref f5)=true)
  (a6:PySem.W.nsIn K mainGlobals "copy_of"=some (some (.ref f6))) (l6:K.lookup f6=some ⟨oc6,od6,.func (PySem.W.fnOf "copy_of" "copy_of" (Af Fc) (Ae Fc) (AI Fc) .none kV6 dc6 pm6 an6 x_ ct6),sl6⟩) (c6:PySem.W.codeIn K x_ "copy_of"=true) (k6:PySem.W.keepIn K (.ref f6)=true)
  (a7:PySem.W.nsIn K mainGlobals "holds"=some (some (.ref f7))) (l7:K.lookup f7=some ⟨oc7,od7,.func (PySem.W.fnOf "holds" "holds" (Af Hv) (Ae Hv) (AI Hv) .none kV7 dc7 pm7 an7 yA ct7),sl7⟩) (c7:PySem.W.codeIn K yA "holds"=true) (k7:PySem.W.keepIn K (.ref f7)=true)
  (a8:PySem.W.nsIn K mainGlobals "holder_in"=some (some (.ref f8))) (l8:K.lookup f8=some ⟨oc8,od8,.func (PySem.W.fnOf "holder_in" "holder_in" (Af Cz) (Ae Cz) (AI Cz) .none kV8 dc8 pm8 an8 yB ct8),sl8⟩) (c8:PySem.W.codeIn K yB "holder_in"=true) (k8:PySem.W.keepIn K (.ref f8)=true)
  (a9:PySem.W.nsIn K mainGlobals "inner_nodes"=some (some (.ref f9))) (l9:K.lookup f9=some ⟨oc9,od9,.func (PySem.W.fnOf "inner_nodes" "inner_nodes" (Af CP) (Ae CP) (AI CP) .none kV9 dc9 pm9 an9 yC ct9),sl9⟩) (c9:PySem.W.codeIn K yC "inner_nodes"=true) (k9:PySem.W.keepIn K (.ref f9)=true)
  (a10:PySem.W.nsIn K mainGlobals "filled"=some (some (.ref f10))) (l10:K.lookup f10=some ⟨qe,oM,.func (PySem.W.fnOf "filled" "filled" (Af Fe) (Ae Fe) (AI Fe) .none qf qg qh oN iZ qi),qF⟩) (c10:PySem.W.codeIn K iZ "filled"=true) (k10:PySem.W.keepIn K (.ref f10)=true)
  (a11:PySem.W.nsIn K mainGlobals "inner_just"=some (some (.ref f11))) (l11:K.lookup f11=some ⟨qj,oO,.func (PySem.W.fnOf "inner_just" "inner_just" (Af Cc) (Ae Cc) (AI Cc) .none qk ql qm oP ia qo),qG⟩) (c11:PySem.W.codeIn K ia "inner_just"=true) (k11:PySem.W.keepIn K (.ref f11)=true)
  (a12:PySem.W.nsIn K mainGlobals "good_form"=some (some (.ref f12))) (l12:K.lookup f12=some ⟨qp,oQ,.func (PySem.W.fnOf "good_form" "good_form" (Af C_) (Ae C_) (AI C_) .none qq qr qt oR ib qu),qH⟩) (c12:PySem.W.codeIn K ib "good_form"=true) (k12:PySem.W.keepIn K (.ref f12)=true)
  (a13:PySem.W.nsIn K mainGlobals "good_part"=some (some (.ref V))) (l13:K.lookup V=some ⟨qv,oS,.func (PySem.W.fnOf "good_part" "good_part" (Af C') (Ae C') (AI C') .none qw qx qy oU ie qz),qI⟩) (c13:PySem.W.codeIn K ie "good_part"=true) (k13:PySem.W.keepIn K (.ref V)=true)
  (a14:PySem.W.nsIn K mainGlobals "good_row"=some (some (.ref f14))) (l14:K.lookup f14=some ⟨q_,oV,.func (PySem.W.fnOf "good_row" "good_row" (Af EF) (Ae EF) (AI EF) .none rA rB rC oW ig rD),qJ⟩) (c14:PySem.W.codeIn K ig "good_row"=true) (k14:PySem.W.keepIn K (.ref f14)=true)
  (a15:PySem.W.nsIn K mainGlobals "good_table"=some (some (.ref f15))) (l15:K.lookup f15=some ⟨rE,oX,.func (PySem.W.fnOf "good_table" "good_table" (Af Cd) (Ae Cd) (AI Cd) .none rF rG rH oY ij rJ),qK⟩) (c15:PySem.W.codeIn K ij "good_table"=true) (k15:PySem.W.keepIn K (.ref f15)=true)
  (a16:PySem.W.nsIn K mainGlobals "asks_at"=some (some (.ref f16))) (l16:K.lookup f16=some ⟨rK,oZ,.func (PySem.W.fnOf "asks_at" "asks_at" (Af Ff) (Ae Ff) (AI Ff) .none rL rM rN oe ip rO),qL⟩) (c16:PySem.W.codeIn K ip "asks_at"=true) (k16:PySem.W.keepIn K (.ref f16)=true)
  (a17:PySem.W.nsIn K mainGlobals "found_asks"=some (some (.ref f17))) (l17:K.lookup f17=some ⟨rP,oh,.func (PySem.W.fnOf "found_asks" "found_asks" (Af Ce) (Ae Ce) (AI Ce) .none rQ rR rS oj iq rT),qM⟩) (c17:PySem.W.codeIn K iq "found_asks"=true) (k17:PySem.W.keepIn K (.ref f17)=true)
  (a18:PySem.W.nsIn K mainGlobals "_law_cell"=some (some (.ref f18))) (l18:K.lookup f18=some ⟨rV,om,.func (PySem.W.fnOf "_law_cell" "_law_cell" (Af Lr) (Ae Lr) (AI Lr) .none rW rX rY oo ir rZ),qN⟩) (c18:PySem.W.codeIn K ir "_law_cell"=true) (k18:PySem.W.keepIn K (.ref f18)=true)
  (a19:PySem.W.nsIn K mainGlobals "_law_mix"=some (some (.ref f19))) (l19:K.lookup f19=some ⟨rg,oq,.func (PySem.W.fnOf "_law_mix" "_law_mix" (Af Qw) (Ae Qw) (AI Qw) .none rh ri rj oy iu rk),qO⟩) (c19:PySem.W.codeIn K iu "_law_mix"=true) (k19:PySem.W.keepIn K (.ref f19)=true)
  (a20:PySem.W.nsIn K mainGlobals "_law_names"=some (some (.ref f20))) (l20:K.lookup f20=some ⟨rm,oz,.func (PySem.W.fnOf "_law_names" "_law_names" (Af Hy) (Ae Hy) (AI Hy) .none ro rq rx o_ iw ry),qP⟩) (c20:PySem.W.codeIn K iw "_law_names"=true) (k20:PySem.W.keepIn K (.ref f20)=true)
  (a21:PySem.W.nsIn K mainGlobals "_law_doc"=some (some (.ref f21))) (l21:K.lookup f21=some ⟨rz,pC,.func (PySem.W.fnOf "_law_doc" "_law_doc" (Af Tu) (Ae Tu) (AI Tu) .none r_ sH sN pF iy sQ),qQ⟩) (c21:PySem.W.codeIn K iy "_law_doc"=true) (k21:PySem.W.keepIn K (.ref f21)=true)
  (a22:PySem.W.nsIn K mainGlobals "_law_copy"=some (some (.ref f22))) (l22:K.lookup f22=some ⟨sR,pH,.func (PySem.W.fnOf "_law_copy" "_law_copy" (Af KP) (Ae KP) (AI KP) .none sS sU sV pJ iz sW),qR⟩) (c22:PySem.W.codeIn K iz "_law_copy"=true) (k22:PySem.W.keepIn K (.ref f22)=true)
  (a23:PySem.W.nsIn K mainGlobals "_law_ruin"=some (some (.ref f23))) (l23:K.lookup f23=some ⟨sd,pK,.func (PySem.W.fnOf "_law_ruin" "_law_ruin" (Af KQ) (Ae KQ) (AI KQ) .none sf sg sh pM i_ sq),qS⟩) (c23:PySem.W.codeIn K i_ "_law_ruin"=true) (k23:PySem.W.keepIn K (.ref f23)=true)
  (a24:PySem.W.nsIn K mainGlobals "_law_asks"=some (some (.ref f24))) (l24:K.lookup f24=some ⟨sr,pN,.func (PySem.W.fnOf "_law_asks" "_law_asks" (Af KR) (Ae KR) (AI KR) .none su sy s_ pO i' tD),qT⟩) (c24:PySem.W.codeIn K i' "_law_asks"=true) (k24:PySem.W.keepIn K (.ref f24)=true)
  (a25:PySem.W.nsIn K mainGlobals "_law_fit"=some (some (.ref f25))) (l25:K.lookup f25=some ⟨tE,pP,.func (PySem.W.fnOf "_law_fit" "_law_fit" (Af Qx) (Ae Qx) (AI Qx) .none tF tG tH pQ jA tJ),qU⟩) (c25:PySem.W.codeIn K jA "_law_fit"=true) (k25:PySem.W.keepIn K (.ref f25)=true)
  (a26:PySem.W.nsIn K mainGlobals "_law_lets"=some (some (.ref f26))) (l26:K.lookup f26=some ⟨tK,pR,.func (PySem.W.fnOf "_law_lets" "_law_lets" (Af KS) (Ae KS) (AI KS) .none tO tP tQ pU jB tR),qV⟩) (c26:PySem.W.codeIn K jB "_law_lets"=true) (k26:PySem.W.keepIn K (.ref f26)=true)
  (a27:PySem.W.nsIn K mainGlobals "_law_is_good"=some (some (.ref f27))) (l27:K.lookup f27=some ⟨tS,pV,.func (PySem.W.fnOf "_law_is_good" "_law_is_good" (Af Ee) (Ae Ee) (AI Ee) .none tU tV tW pW jC tX),qW⟩) (c27:PySem.W.codeIn K jC "_law_is_good"=true) (k27:PySem.W.keepIn K (.ref f27)=true)
  (a28:PySem.W.nsIn K mainGlobals "_law_into"=some (some (.ref f28))) (l28:K.lookup f28=some ⟨tY,pd,.func (PySem.W.fnOf "_law_into" "_law_into" (Af Ls) (Ae Ls) (AI Ls) .none tZ tj tm pf jD t_),qX⟩) (c28:PySem.W.codeIn K jD "_law_into"=true) (k28:PySem.W.keepIn K (.ref f28)=true)
  (a29:PySem.W.nsIn K mainGlobals "_law_steps"=some (some (.ref f29))) (l29:K.lookup f29=some ⟨uA,ph,.func (PySem.W.fnOf "_law_steps" "_law_steps" (Af Hz) (Ae Hz) (AI Hz) .none uB uC uD pj jE uE),qY⟩) (c29:PySem.W.codeIn K jE "_law_steps"=true) (k29:PySem.W.keepIn K (.ref f29)=true)
  (a30:PySem.W.nsIn K mainGlobals "_law_told"=some (some (.ref f30))) (l30:K.lookup f30=some ⟨uF,pq,.func (PySem.W.fnOf "_law_told" "_law_told" (Af KU) (Ae KU) (AI KU) .none uG uH uI pw jF uJ),qZ⟩) (c30:PySem.W.codeIn K jF "_law_told"=true) (k30:PySem.W.keepIn K (.ref f30)=true)
  (a31:PySem.W.nsIn K mainGlobals "_law_beyond"=some (some (.ref f31))) (l31:K.lookup f31=some ⟨uK,pz,.func (PySem.W.fnOf "_law_beyond" "_law_beyond" (Af Fg) (Ae Fg) (AI Fg) .none uL uM uN p_ jG uO),qa⟩) (c31:PySem.W.codeIn K jG "_law_beyond"=true) (k31:PySem.W.keepIn K (.ref f31)=true)
  (a32:PySem.W.nsIn K mainGlobals "_law_part"=some (some (.ref f32))) (l32:K.lookup f32=some ⟨uP,qA,.func (PySem.W.fnOf "_law_part" "_law_part" (Af Lu) (Ae Lu) (AI Lu) .none uQ uR uS qB jH uT),qb⟩) (c32:PySem.W.codeIn K jH "_law_part"=true) (k32:PySem.W.keepIn K (.ref f32)=true)
  (a33:PySem.W.nsIn K mainGlobals "_law_large"=some (some (.ref f33))) (l33:K.lookup f33=some ⟨uU,qC,.func (PySem.W.fnOf "_law_large" "_law_large" (Af H_) (Ae H_) (AI H_) .none uV uW uX qD jI uY),qc⟩) (c33:PySem.W.codeIn K jI "_law_large"=true) (k33:PySem.W.keepIn K (.ref f33)=true)
  (a34:PySem.W.nsIn K mainGlobals "law"=some (some (.ref f34))) (l34:K.lookup f34=some ⟨uZ,qE,.func (PySem.W.fnOf "law" "law" (Af NA) (Ae NA) (AI NA) .none jJ jK jL iY I jM),qd⟩) (c34:PySem.W.codeIn K I "law"=true) (k34:PySem.W.keepIn K (.ref f34)=true)
  (z1:PySem.W.nsIn K mainGlobals "isinstance"=some none)
  (z2:PySem.W.nsIn K mainGlobals "int"=some none)
  (z3:PySem.W.nsIn K mainGlobals "bool"=some none)
  (z4:PySem.W.nsIn K mainGlobals "str"=some none)
  (z5:PySem.W.nsIn K mainGlobals "list"=some none)
  (z6:PySem.W.nsIn K mainGlobals "dict"=some none)
  (z7:PySem.W.nsIn K mainGlobals "tuple"=some none)
  (z8:PySem.W.nsIn K mainGlobals "len"=some none)
  (z9:PySem.W.nsIn K mainGlobals "range"=some none)
  (z10:PySem.W.nsIn K mainGlobals "max"=some none)
  (z11:PySem.W.nsIn K mainGlobals "min"=some none)
  (z12:PySem.W.nsIn K mainGlobals "sorted"=some none)
  (z13:PySem.W.nsIn K mainGlobals "all"=some none)
  (z14:PySem.W.nsIn K mainGlobals "any"=some none)
  (z15:PySem.W.nsIn K mainGlobals "reversed"=some none)
  (z16:PySem.W.nsIn K mainGlobals "ValueError"=some none)
  (z17:PySem.W.nsIn K mainGlobals "sum"=some none)
  {aA:Addr}
  (zZ:PySem.W.nsIn K mainGlobals "zip"=some none)
  (dS:PySem.W.nsIn K mainGlobals "set"=some none)
  (eA:PySem.W.nsIn K mainGlobals "ANY"=some (some (.ref aA)))
  (hA:YO K aA ["any"]=true)
  :∃fd:FuncData,(∀(s:Shared) (v:Value),BindsTo s fd ⟨[v],[]⟩ [("_law_script",v)])/\∀base:Heap,K.In base->base.Ns mainGlobals mg->BG l.prog w K mg base CW 60 fa fd ["_law_script"] (N_ K):=by
 haveI:Ar K:=⟨trivial⟩
 have e:=hfa.symm.trans (PySem.W.mg_of X G a34)
 cases e
 have T:Txt mg:=⟨PySem.W.mg_none_of X G z1,PySem.W.mg_none_of X G z2,PySem.W.mg_none_of X G z3,PySem.W.mg_none_of X G z4,PySem.W.mg_none_of X G z5,PySem.W.mg_none_of X G z6,PySem.W.mg_none_of X G z7,PySem.W.mg_none_of X G z8,PySem.W.mg_none_of X G z9,PySem.W.mg_none_of X G z10,PySem.W.mg_none_of X G z11,PySem.W.mg_none_of X G z12,PySem.W.mg_none_of X G z13,PySem.W.mg_none_of X G z14,PySem.W.mg_none_of X G z15,PySem.W.mg_none_of X G z16,PySem.W.mg_none_of X G z17⟩
 have F1:=A' (st:=Cy) l1 c1 k1
 have b1:=F1.binds (ps:=["root","inner"]) fun _ _ _ _ _ _ a b=>by obtain⟨c,q,rfl⟩:=Dh a b;rfl
 have m1:=PySem.W.mg_of X G a1
 have F2:=A' (st:=Fb) l2 c2 k2
 have b2:=F2.binds (ps:=["root","inner","join"]) fun _ _ _ _ _ _ a b=>by obtain⟨c,q,x2,rfl⟩:=MA a b;rfl
 have m2:=PySem.W.mg_of X G a2
 have F3:=A' (st:=DQ) l3 c3 k3
 have b3:=F3.binds (ps:=["doc"]) fun _ _ _ _ _ _ a b=>by obtain⟨c,rfl⟩:=EG a b;rfl
 have m3:=PySem.W.mg_of X G a3
 have F4:=A' (st:=EE) l4 c4 k4
 have b4:=F4.binds (ps:=["doc"]) fun _ _ _ _ _ _ a b=>by obtain⟨c,rfl⟩:=EG a b;rfl
 have m4:=PySem.W.mg_of X G a4
 have F5:=A' (st:=Cb) l5 c5 k5
 have b5:=F5.binds (ps:=["doc"]) fun _ _ _ _ _ _ a b=>by obtain⟨c,rfl⟩:=EG a b;rfl
 have m5:=PySem.W.mg_of X G a5
 have F6:=A' (st:=Fc) l6 c6 k6
 have b6:=F6.binds (ps:=["doc"]) fun _ _ _ _ _ _ a b=>by obtain⟨c,rfl⟩:=EG a b;rfl
 have m6:=PySem.W.mg_of X G a6
 have F7:=A' (st:=Hv) l7 c7 k7
 have b7:=F7.binds (ps:=["doc","step"]) fun _ _ _ _ _ _ a b=>by obtain⟨c,q,rfl⟩:=Dh a b;rfl
 have m7:=PySem.W.mg_of X G a7
 have F8:=A' (st:=Cz) l8 c8 k8
 have b8:=F8.binds (ps:=["node"]) fun _ _ _ _ _ _ a b=>by obtain⟨c,rfl⟩:=EG a b;rfl
 have m8:=PySem.W.mg_of X G a8
 have F9:=A' (st:=CP) l9 c9 k9
 have b9:=F9.binds (ps:=["node"]) fun _ _ _ _ _ _ a b=>by obtain⟨c,rfl⟩:=EG a b;rfl
 have m9:=PySem.W.mg_of X G a9
 have ua:=A' (st:=Fe) l10 c10 k10
 have b10:=ua.binds (ps:=["holder","told"]) fun _ _ _ _ _ _ a b=>by obtain⟨c,q,rfl⟩:=Dh a b;rfl
 have m10:=PySem.W.mg_of X G a10
 have ub:=A' (st:=Cc) l11 c11 k11
 have b11:=ub.binds (ps:=["holder"]) fun _ _ _ _ _ _ a b=>by obtain⟨c,rfl⟩:=EG a b;rfl
 have m11:=PySem.W.mg_of X G a11
 have uc:=A' (st:=C_) l12 c12 k12
 have b12:=uc.binds (ps:=["asks"]) fun _ _ _ _ _ _ a b=>by obtain⟨c,rfl⟩:=EG a b;rfl
 have m12:=PySem.W.mg_of X G a12
 have ud:=A' (st:=C') l13 c13 k13
 have b13:=ud.binds (ps:=["asks","told"]) fun _ _ _ _ _ _ a b=>by obtain⟨c,q,rfl⟩:=Dh a b;rfl
 have m13:=PySem.W.mg_of X G a13
 have ue:=A' (st:=EF) l14 c14 k14
 have b14:=ue.binds (ps:=["cells","more"]) fun _ _ _ _ _ _ a b=>by obtain⟨c,q,rfl⟩:=Dh a b;rfl
 have m14:=PySem.W.mg_of X G a14
 have uf:=A' (st:=Cd) l15 c15 k15
 have b15:=uf.binds (ps:=["names","lacking","more"]) fun _ _ _ _ _ _ a b=>by obtain⟨c,q,x2,rfl⟩:=MA a b;rfl
 have m15:=PySem.W.mg_of X G a15
 have ug:=A' (st:=Ff) l16 c16 k16
 have b16:=ug.binds (ps:=["asks","path"]) fun _ _ _ _ _ _ a b=>by obtain⟨c,q,rfl⟩:=Dh a b;rfl
 have m16:=PySem.W.mg_of X G a16
 have uh:=A' (st:=Ce) l17 c17 k17
 have b17:=uh.binds (ps:=["asks","path"]) fun _ _ _ _ _ _ a b=>by obtain⟨c,q,rfl⟩:=Dh a b;rfl
 have m17:=PySem.W.mg_of X G a17
 have ui:=A' (st:=Lr) l18 c18 k18
 have b18:=ui.binds (ps:=["_law_script","_law_k"]) fun _ _ _ _ _ _ a b=>by obtain⟨c,q,rfl⟩:=Dh a b;rfl
 have m18:=PySem.W.mg_of X G a18
 have uj:=A' (st:=Qw) l19 c19 k19
 have b19:=uj.binds (ps:=["_law_cell_here","_law_k"]) fun _ _ _ _ _ _ a b=>by obtain⟨c,q,rfl⟩:=Dh a b;rfl
 have m19:=PySem.W.mg_of X G a19
 have uk:=A' (st:=Hy) l20 c20 k20
 have b20:=uk.binds (ps:=["_law_cell_here"]) fun _ _ _ _ _ _ a b=>by obtain⟨c,rfl⟩:=EG a b;rfl
 have m20:=PySem.W.mg_of X G a20
 have uo:=A' (st:=Tu) l21 c21 k21
 have b21:=uo.binds (ps:=["_law_cell_here","_law_k","_law_names_here"]) fun _ _ _ _ _ _ a b=>by obtain⟨c,q,x2,rfl⟩:=MA a b;rfl
 have m21:=PySem.W.mg_of X G a21
 have J:=A' (st:=KP) l22 c22 k22
 have Y:=J.binds (ps:=["_law_thing"]) fun _ _ _ _ _ _ a b=>by obtain⟨c,rfl⟩:=EG a b;rfl
 have Z:=PySem.W.mg_of X G a22
 have uq:=A' (st:=KQ) l23 c23 k23
 have b23:=uq.binds (ps:=["_law_thing"]) fun _ _ _ _ _ _ a b=>by obtain⟨c,rfl⟩:=EG a b;rfl
 have m23:=PySem.W.mg_of X G a23
 have uu:=A' (st:=KR) l24 c24 k24
 have b24:=uu.binds (ps:=["_law_cells","_law_deep","_law_names_here"]) fun _ _ _ _ _ _ a b=>by obtain⟨c,q,x2,rfl⟩:=MA a b;rfl
 have m24:=PySem.W.mg_of X G a24
 have uv:=A' (st:=Qx) l25 c25 k25
 have b25:=uv.binds (ps:=["_law_asks_here","_law_cells","_law_names_here"]) fun _ _ _ _ _ _ a b=>by obtain⟨c,q,x2,rfl⟩:=MA a b;rfl
 have m25:=PySem.W.mg_of X G a25
 have uw:=A' (st:=KS) l26 c26 k26
 have b26:=uw.binds (ps:=["_law_asks_here","_law_doc_here"]) fun _ _ _ _ _ _ a b=>by obtain⟨c,q,rfl⟩:=Dh a b;rfl
 have m26:=PySem.W.mg_of X G a26
 have uy:=A' (st:=Ee) l27 c27 k27
 have b27:=uy.binds (ps:=["_law_asks_here"]) fun _ _ _ _ _ _ a b=>by obtain⟨c,rfl⟩:=EG a b;rfl
 have m27:=PySem.W.mg_of X G a27
 have uz:=A' (st:=Ls) l28 c28 k28
 have b28:=uz.binds (ps:=["_law_asks_here","_law_step"]) fun _ _ _ _ _ _ a b=>by obtain⟨c,q,rfl⟩:=Dh a b;rfl
 have m28:=PySem.W.mg_of X G a28
 have u_:=A' (st:=Hz) l29 c29 k29
 have b29:=u_.binds (ps:=["_law_asks_here"]) fun _ _ _ _ _ _ a b=>by obtain⟨c,rfl⟩:=EG a b;rfl
 have m29:=PySem.W.mg_of X G a29
 have vD:=A' (st:=KU) l30 c30 k30
 have b30:=vD.binds (ps:=["_law_asks_here","_law_path"]) fun _ _ _ _ _ _ a b=>by obtain⟨c,q,rfl⟩:=Dh a b;rfl
 have m30:=PySem.W.mg_of X G a30
 have vE:=A' (st:=Fg) l31 c31 k31
 have b31:=vE.binds (ps:=["_law_asks_here","_law_names_here"]) fun _ _ _ _ _ _ a b=>by obtain⟨c,q,rfl⟩:=Dh a b;rfl
 have m31:=PySem.W.mg_of X G a31
 have vF:=A' (st:=Lu) l32 c32 k32
 have b32:=vF.binds (ps:=["_law_doc_here","_law_path"]) fun _ _ _ _ _ _ a b=>by obtain⟨c,q,rfl⟩:=Dh a b;rfl
 have m32:=PySem.W.mg_of X G a32
 have vH:=A' (st:=H_) l33 c33 k33
 have b33:=vH.binds (ps:=["_law_asks_here","_law_cell_here","_law_names_here"]) fun _ _ _ _ _ _ a b=>by obtain⟨c,q,x2,rfl⟩:=MA a b;rfl
 have m33:=PySem.W.mg_of X G a33
 have F34:=A' (st:=NA) l34 c34 k34
 have vJ:=PySem.W.mg_none_of X G zZ
 have cy:=PySem.W.mg_none_of X G dS
 have mA:=PySem.W.mg_of X G eA
 refine⟨PySem.W.fnOf "law" "law" (Af NA) (Ae NA) (AI NA) .none jJ jK jL iY I jM,fun s v=>.of_eq rfl,fun base _ _=>?_⟩
 have k:Df l.prog w K mg base "steps_of" ["doc"] 1 E':=Df.mk' F3 b3 m3 (KX F3 T)
 have d:Df l.prog w K mg base "inner_of" ["doc"] 2 GY:=Df.mk' F4 b4 m4 (Qy F4 T k)
 have i:Df l.prog w K mg base "holder_in" ["node"] 1 Mj:=Df.mk' F8 b8 m8 (PM F8 T)
 have t:Df l.prog w K mg base "gathered" ["root","inner"] 4 (Ml f9):=Df.mk' F1 b1 m1 (PJ F1 T F9.kp b9 (Fs F9 T d i))
 have u:Df l.prog w K mg base "steps_of" ["doc"] 1 Ii:=Df.mk' F3 b3 m3 (NB F3 T)
 have r:Df l.prog w K mg base "outer_copy" ["doc"] 1 Ma:=Df.mk' F5 b5 m5 (NC F5 T)
 have C:Df l.prog w K mg base "copy_of" ["doc"] 2 GU:=Df.mk' F6 b6 m6 (Tw F6 T u r)
 have o:Df l.prog w K mg base "filled" ["holder","told"] 2 Gi:=Df.mk' ua b10 m10 (Tz ua T k vJ)
 have f:Df l.prog w K mg base "inner_just" ["holder"] 3 Gk:=Df.mk' ub b11 m11 (ND ub T d o)
 have x:Df l.prog w K mg base "good_row" ["cells","more"] 4 Ht:=Df.mk' ue b14 m14 (RA ue T f)
 have m:Df l.prog w K mg base "good_table" ["names","lacking","more"] 4 Hu:=Df.mk' uf b15 m15 (NF uf T f)
 have D:Df l.prog w K mg base "folded" ["root","inner","join"] 6 (Mm f9 V):=Df.mk' F2 b2 m2 (Tv F2 T t F9.kp b9 (Fs F9 T d i) ud.kp b13 (PR ud T C o x m mA hA))
 have j:Df l.prog w K mg base "good_form" ["asks"] 7 Im:=Df.mk' uc b12 m12 (PQ uc T D m9 m13)
 have E:Df l.prog w K mg base "holds" ["doc","step"] 1 KG:=Df.mk' F7 b7 m7 (Ws F7 T)
 have n:Df l.prog w K mg base "found_asks" ["asks","path"] 2 KH:=Df.mk' uh b17 m17 (NG uh T E)
 have y:Df l.prog w K mg base "asks_at" ["asks","path"] 8 KI:=Df.mk' ug b16 m16 (T_ ug T j n)
 have L:Df l.prog w K mg base "_law_cell" ["_law_script","_law_k"] 1 (QP K):=Df.mk' ui b18 m18 (Yx ui T)
 have g:Df l.prog w K mg base "_law_mix" ["_law_cell_here","_law_k"] 1 Fo:=Df.mk' uj b19 m19 (Yy uj T)
 have F:Df l.prog w K mg base "_law_names" ["_law_cell_here"] 2 Jf:=Df.mk' uk b20 m20 (Ww uk T g)
 have M:Df l.prog w K mg base "_law_copy" ["_law_thing"] 50 (Dd 50):=Df.mk' J Y Z (Kb J T Y Z 50)
 have N:Df l.prog w K mg base "_law_ruin" ["_law_thing"] 50 (Gs 50):=Df.mk' uq b23 m23 (PX uq T b23 m23 50)
 have B:Df l.prog w K mg base "_law_doc" ["_law_cell_here","_law_k","_law_names_here"] 2 Hh:=Df.mk' uo b21 m21 (cj uo T g)
 have O:Df l.prog w K mg base "_law_asks" ["_law_cells","_law_deep","_law_names_here"] 10 (Jg 10):=Df.mk' uu b24 m24 (PY uu T b24 m24 g B 10)
 have P:Df l.prog w K mg base "_law_copy" ["_law_thing"] 6 (Dd 6):=Df.mk' J Y Z (Kb J T Y Z 6)
 have dU:Df l.prog w K mg base "_law_fit" ["_law_asks_here","_law_cells","_law_names_here"] 25 (KO 25):=Df.mk' uv b25 m25 (SV uv T b25 m25 g B P 25)
 have Q:Df l.prog w K mg base "_law_lets" ["_law_asks_here","_law_doc_here"] 20 (FZ 20):=Df.mk' uw b26 m26 (Pa uw T b26 m26 20)
 have z:Df l.prog w K mg base "_law_is_good" ["_law_asks_here"] 20 (FH 20):=Df.mk' uy b27 m27 (Kc uy T b27 m27 cy 20)
 have R:Df l.prog w K mg base "_law_into" ["_law_asks_here","_law_step"] 1 Iq:=Df.mk' uz b28 m28 (ZS uz T)
 have p:Df l.prog w K mg base "_law_steps" ["_law_asks_here"] 1 FI:=Df.mk' u_ b29 m29 (XO u_ T)
 have S:Df l.prog w K mg base "_law_told" ["_law_asks_here","_law_path"] 25 (KL 25):=Df.mk' vD b30 m30 (Pc vD T b30 m30 R p 25)
 have A:Df l.prog w K mg base "_law_beyond" ["_law_asks_here","_law_names_here"] 2 KN:=Df.mk' vE b31 m31 (UC vE T p)
 have U:Df l.prog w K mg base "_law_part" ["_law_doc_here","_law_path"] 1 M':=Df.mk' vF b32 m32 (ZU vF T)
 have H:Df l.prog w K mg base "_law_large" ["_law_asks_here","_law_cell_here","_law_names_here"] 2 Mh:=Df.mk' vH b33 m33 (XT vH T g)
 exact c_ F34 T j y L F M N O dU Q z S A U H
theorem walk {l:PySem.W.OpenLaw} {q:Program} {loose:List Str} {g:(Str->Option Value)->Heap->Prop} {YP:World->Heap->Prop} {d:DefRec} {K:Params->ADv} (i:l.most=some 63) (b:d.params.defaults=[])
  (j:∀(w:World) (h:Heap),YP w h->(K w.params).In h)
  (F:∀(w:World) (mg:Str->Option Value) (c:Addr) (h:Heap),(K w.params).In h->h.Ns mainGlobals mg->mg d.name=some (.ref c)->
   ∃e:FuncData,(∀(s:Shared) (u:Value),BindsTo s e ⟨[u],[]⟩ [("_law_script",u)])/\∀base:Heap,(K w.params).In base->base.Ns mainGlobals mg->BG l.prog w (K w.params) mg base CW 60 c e ["_law_script"] (N_ (K w.params))):
  PySem.W.WalkO q loose g YP l.row.toRowW d [] (fun f vs=>PySem.call f vs):=
 L2.Xv (n:=63) (k:=60) (x:="_law_script") (CX:=fun _=>CW) (sp:=fun w=>N_ (K w.params)) i (by decide) b ⟨rfl,by decide,by decide,rfl⟩ j F (fun _ _ a m o _ p=>⟨a,m,rfl,p,o,fun _=>rfl⟩) fun _ _ _ _ _ z=>z
theorem walkZ {l:PySem.W.OpenLaw} {q:Program} {loose:List Str} {m:(Str->Option Value)->Heap->Prop} {d:DefRec} {K:Params->ADv} {as:List Addr} {n t:Nat} (e:∀P:Params,as=List.map (fun x=>x.fst) (K P)) (p:l.most=some 63) (g:d.params.defaults=[])
  (F:∀(w:World) (mg:Str->Option Value) (j:Addr) (h:Heap),(K w.params).In h->h.Ns mainGlobals mg->mg d.name=some (.ref j)->
   ∃k:FuncData,(∀(s:Shared) (u:Value),BindsTo s k ⟨[u],[]⟩ [("_law_script",u)])/\∀base:Heap,(K w.params).In base->base.Ns mainGlobals mg->BG l.prog w (K w.params) mg base CW 60 j k ["_law_script"] (N_ (K w.params))):
  PySem.W.WalkX q loose m (PySem.W.X.obsZ as) (PySem.W.X.valZ K n t) l.row.toRowW d [] (fun f vs=>PySem.call f vs):=
 fun w b c mg r G y a o v A doc B kV C D E H I J args vals i L M N O Q R=>
  walk (YP:=fun w h=>(K w.params).In h) p g (fun _ _ z=>z) F w b c mg r G ((show(K w.params).In b.heap from(PySem.W.X.z_facts e y).2.1).keeps L.keeps) a o v A doc B kV C D E H I J args vals i M N O Q R
end By
def PySem.W.Fast.tw6516383340346539401:=0
def PySem.W.Fast.tw2635231440972541765:=0
def PySem.W.Fast.tw16295695350874217756:=0
def PySem.W.Fast.tw743806771694368060:=0
def PySem.W.Fast.tw14099141943816130924:=0
def PySem.W.Fast.tw10833654045371136381:=0
def PySem.W.Fast.tw10909078218587546971:=0
def PySem.W.Fast.tw11345815375011936685:=0
def PySem.W.Fast.tw16422891127392011763:=0
def PySem.W.Fast.tw16398716915619321935:=0
def PySem.W.Fast.tw11914759164616652583:=0
def PySem.W.Fast.tw12190905132978748035:=0
def PySem.W.Fast.tw17782405307240508736:=0
def PySem.W.Fast.tw18400393502308094503:=0
def PySem.W.Fast.tw10739210565533969001:=0
def PySem.W.Fast.tw3955619784223558624:=0
def PySem.W.Fast.tw1454847724580783921:=0
def PySem.W.Fast.tw14723893925221486211:=0
def PySem.W.Fast.tw11028178853079276445:=0
def PySem.W.Fast.tw7243863541129449031:=0
def PySem.W.Fast.tw2475748246334214421:=0
def PySem.W.Fast.tw18427379671942566016:=0
def PySem.W.Fast.tw2322081908849457799:=0
def PySem.W.Fast.tw5135867155468012077:=0
def PySem.W.Fast.tw17700928178700476269:=0
def PySem.W.Fast.tw109052084845867214:=0
def PySem.W.Fast.tw17247386564510443175:=0
def PySem.W.Fast.tw14961075773357784458:=0
open PySem PySem.W PyProof.Rows
set_option maxRecDepth 100000 in
set_option maxHeartbeats 0 in
theorem PySem.Challenge.cw_patchbough_k46_asks_at_a_path_holds : PySem.Challenge.rw_patchbough_k46_asks_at_a_path.Holds := by
 w_on;o_law;z_head;(case hw=>w_witness2)
 k_fill
 refine By.walkZ (l:=PySem.Challenge.rw_patchbough_k46_asks_at_a_path) (fun _=>rfl) rfl rfl ?F
 case F=>
  intro w c d h b G a
  refine' By.all_mk b G a ?a1 ?l1 ?c1 ?k1 ?a2 ?l2 ?c2 ?k2 ?a3 ?l3 ?c3 ?k3 ?a4 ?l4 ?c4 ?k4 ?a5 ?l5 ?c5 ?k5 ?a6 ?l6 ?c6 ?k6 ?a7 ?l7 ?c7 ?k7 ?a8 ?l8 ?c8 ?k8 ?a9 ?l9 ?c9 ?k9 ?a10 ?l10 ?c10 ?k10 ?a11 ?l11 ?c11 ?k11 ?a12 ?l12 ?c12 ?k12 ?a13 ?l13 ?c13 ?k13 ?a14 ?l14 ?c14 ?k14 ?a15 ?l15 ?c15 ?k15 ?a16 ?l16 ?c16 ?k16 ?a17 ?l17 ?c17 ?k17 ?a18 ?l18 ?c18 ?k18 ?a19 ?l19 ?c19 ?k19 ?a20 ?l20 ?c20 ?k20 ?a21 ?l21 ?c21 ?k21 ?a22 ?l22 ?c22 ?k22 ?a23 ?l23 ?c23 ?k23 ?a24 ?l24 ?c24 ?k24 ?a25 ?l25 ?c25 ?k25 ?a26 ?l26 ?c26 ?k26 ?a27 ?l27 ?c27 ?k27 ?a28 ?l28 ?c28 ?k28 ?a29 ?l29 ?c29 ?k29 ?a30 ?l30 ?c30 ?k30 ?a31 ?l31 ?c31 ?k31 ?a32 ?l32 ?c32 ?k32 ?a33 ?l33 ?c33 ?k33 ?a34 ?l34 ?c34 ?k34 ?z1 ?z2 ?z3 ?z4 ?z5 ?z6 ?z7 ?z8 ?z9 ?z10 ?z11 ?z12 ?z13 ?z14 ?z15 ?z16 ?z17 ?zZ ?dS ?eA ?hA
  (case a1=>k_is)
  (case l1=>k_is)
  (case c1=>k_is)
  (case k1=>k_is)
  (case a2=>k_is)
  (case l2=>k_is)
  (case c2=>k_is)
  (case k2=>k_is)
  (case a3=>k_is)
  (case l3=>k_is)
  (case c3=>k_is)
  (case k3=>k_is)
  (case a4=>k_is)
  (case l4=>k_is)
  (case c4=>k_is)
  (case k4=>k_is)
  (case a5=>k_is)
  (case l5=>k_is)
  (case c5=>k_is)
  (case k5=>k_is)
  (case a6=>k_is)
  (case l6=>k_is)
  (case c6=>k_is)
  (case k6=>k_is)
  (case a7=>k_is)
  (case l7=>k_is)
  (case c7=>k_is)
  (case k7=>k_is)
  (case a8=>k_is)
  (case l8=>k_is)
  (case c8=>k_is)
  (case k8=>k_is)
  (case a9=>k_is)
  (case l9=>k_is)
  (case c9=>k_is)
  (case k9=>k_is)
  (case a10=>k_is)
  (case l10=>k_is)
  (case c10=>k_is)
  (case k10=>k_is)
  (case a11=>k_is)
  (case l11=>k_is)
  (case c11=>k_is)
  (case k11=>k_is)
  (case a12=>k_is)
  (case l12=>k_is)
  (case c12=>k_is)
  (case k12=>k_is)
  (case a13=>k_is)
  (case l13=>k_is)
  (case c13=>k_is)
  (case k13=>k_is)
  (case a14=>k_is)
  (case l14=>k_is)
  (case c14=>k_is)
  (case k14=>k_is)
  (case a15=>k_is)
  (case l15=>k_is)
  (case c15=>k_is)
  (case k15=>k_is)
  (case a16=>k_is)
  (case l16=>k_is)
  (case c16=>k_is)
  (case k16=>k_is)
  (case a17=>k_is)
  (case l17=>k_is)
  (case c17=>k_is)
  (case k17=>k_is)
  (case a18=>k_is)
  (case l18=>k_is)
  (case c18=>k_is)
  (case k18=>k_is)
  (case a19=>k_is)
  (case l19=>k_is)
  (case c19=>k_is)
  (case k19=>k_is)
  (case a20=>k_is)
  (case l20=>k_is)
  (case c20=>k_is)
  (case k20=>k_is)
  (case a21=>k_is)
  (case l21=>k_is)
  (case c21=>k_is)
  (case k21=>k_is)
  (case a22=>k_is)
  (case l22=>k_is)
  (case c22=>k_is)
  (case k22=>k_is)
  (case a23=>k_is)
  (case l23=>k_is)
  (case c23=>k_is)
  (case k23=>k_is)
  (case a24=>k_is)
  (case l24=>k_is)
  (case c24=>k_is)
  (case k24=>k_is)
  (case a25=>k_is)
  (case l25=>k_is)
  (case c25=>k_is)
  (case k25=>k_is)
  (case a26=>k_is)
  (case l26=>k_is)
  (case c26=>k_is)
  (case k26=>k_is)
  (case a27=>k_is)
  (case l27=>k_is)
  (case c27=>k_is)
  (case k27=>k_is)
  (case a28=>k_is)
  (case l28=>k_is)
  (case c28=>k_is)
  (case k28=>k_is)
  (case a29=>k_is)
  (case l29=>k_is)
  (case c29=>k_is)
  (case k29=>k_is)
  (case a30=>k_is)
  (case l30=>k_is)
  (case c30=>k_is)
  (case k30=>k_is)
  (case a31=>k_is)
  (case l31=>k_is)
  (case c31=>k_is)
  (case k31=>k_is)
  (case a32=>k_is)
  (case l32=>k_is)
  (case c32=>k_is)
  (case k32=>k_is)
  (case a33=>k_is)
  (case l33=>k_is)
  (case c33=>k_is)
  (case k33=>k_is)
  (case a34=>k_is)
  (case l34=>k_is)
  (case c34=>k_is)
  (case k34=>k_is)
  (case z1=>k_is)
  (case z2=>k_is)
  (case z3=>k_is)
  (case z4=>k_is)
  (case z5=>k_is)
  (case z6=>k_is)
  (case z7=>k_is)
  (case z8=>k_is)
  (case z9=>k_is)
  (case z10=>k_is)
  (case z11=>k_is)
  (case z12=>k_is)
  (case z13=>k_is)
  (case z14=>k_is)
  (case z15=>k_is)
  (case z16=>k_is)
  (case z17=>k_is)
  (case zZ=>k_is)
  (case dS=>k_is)
  (case eA=>k_is)
  (case hA=>kernel_rfl)
#print axioms PySem.Challenge.cw_patchbough_k46_asks_at_a_path_holds
